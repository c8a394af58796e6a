package event_test

import (
	"bytes"
	"encoding/binary"
	"fmt"
	"math"
	"math/rand/v2"
	"reflect"
	"slices"
	"testing"

	"governor/api"
	"governor/event"
	"governor/wire"
)

// The words: what the chapter says, with its numbers written out.

func from(least, n, most int64) bool { return least <= n && n <= most }

// saysPolicy makes a policy of its kind's parts alone, which is to be this one, and asks for their bounds.
func saysPolicy(p api.Policy) bool {
	own := api.Policy{Kind: p.Kind}
	right := false
	switch p.Kind {
	case 1:
		own.Target = p.Target
		right = from(1, p.Target, 1000000000)
	case 2:
		own.Bands = p.Bands
		right = from(1, int64(len(p.Bands)), 8)
		for i, b := range p.Bands {
			right = right && from(0, b.Above, 1000000000) && from(-1000, int64(b.Delta), 1000) && (i == 0 || p.Bands[i-1].Above < b.Above)
		}
	case 3:
		own.Target, own.Kp, own.Ki, own.Kd = p.Target, p.Kp, p.Ki, p.Kd
		right = from(1, p.Target, 1000000000)
		for _, n := range []int64{p.Kp, p.Ki, p.Kd} {
			right = right && from(-1000000000, n, 1000000000)
		}
	case 4:
		own.Period, own.Slots = p.Period, p.Slots
		right = from(1, p.Period, 1099511627776) && from(1, int64(len(p.Slots)), 8)
		for i, s := range p.Slots {
			right = right && from(0, s.From, p.Period-1) && from(0, int64(s.N), 1000) && (i > 0 || s.From == 0) && (i == 0 || p.Slots[i-1].From < s.From)
		}
	}
	return right && alikePolicies(p, own)
}

func saysConf(c api.Conf) bool {
	return c.Min >= 1 && c.Min <= c.Max && c.Max <= 1000 &&
		from(1, int64(c.Rate), 1000) && from(0, c.Stable, 1099511627776) && from(1, c.Cap, 1000000) &&
		from(0, int64(c.Delay), 8) && from(0, c.Slack, 1000000000) && from(1, int64(c.Window), 32) &&
		from(0, c.Margin, 1000000000) && from(0, int64(c.Ceil), 32) && from(1, int64(c.Probe), 32) && from(0, int64(c.Breach), 32)
}

// ownOf is an event of its kind's parts alone.
func ownOf(e api.Event) api.Event {
	own := api.Event{Kind: e.Kind}
	switch e.Kind {
	case 1:
		own.Util, own.Demand = e.Util, e.Demand
	case 2:
		own.T = e.T
	case 3:
		own.Id, own.Pol = e.Id, e.Pol
	case 4:
		own.Conf = e.Conf
	case 5:
		own.T, own.N = e.T, e.N
	case 6, 7:
		own.Id = e.Id
	case 8:
		own.Body = e.Body
	}
	return own
}

func saysRight(e api.Event) bool {
	right := from(1, int64(e.Kind), 8)
	switch e.Kind {
	case 3:
		right = from(0, int64(e.Id), 3) && (saysPolicy(e.Pol) || e.Id != 0 && alikePolicies(e.Pol, api.Policy{}))
	case 4:
		right = saysConf(e.Conf)
	case 5:
		right = from(0, e.T, 1099511627776) && from(0, int64(e.N), 1000)
	case 6, 7:
		right = from(0, int64(e.Id), 3)
	case 8:
		right = len(e.Body) <= 1700
	}
	return right && alike(e, ownOf(e))
}

// numbersOf is the numbers of an event's bytes, right or not, in their order: that of a snapshot is how long its text is.
func numbersOf(e api.Event) []int64 {
	switch e.Kind {
	case 1:
		return []int64{e.Util, e.Demand}
	case 2:
		return []int64{e.T}
	case 3:
		return append([]int64{int64(e.Id)}, numbersOfPolicy(e.Pol)...)
	case 4:
		c := e.Conf
		return []int64{int64(c.Min), int64(c.Max), int64(c.Rate), c.Stable, c.Cap, int64(c.Delay), c.Slack, int64(c.Window), c.Margin, int64(c.Ceil), int64(c.Probe), int64(c.Breach)}
	case 5:
		return []int64{e.T, int64(e.N)}
	case 6, 7:
		return []int64{int64(e.Id)}
	case 8:
		return []int64{int64(len(e.Body))}
	}
	return nil
}

func numbersOfPolicy(p api.Policy) []int64 {
	l := []int64{int64(p.Kind), p.Target, int64(len(p.Bands))}
	for _, b := range p.Bands {
		l = append(l, b.Above, int64(b.Delta))
	}
	l = append(l, p.Kp, p.Ki, p.Kd, p.Period, int64(len(p.Slots)))
	for _, s := range p.Slots {
		l = append(l, s.From, int64(s.N))
	}
	return l
}

// written is numbers as bytes: encoding/binary's are just those of layer 7.
func written(l ...int64) []byte {
	var b []byte
	for _, n := range l {
		b = binary.AppendVarint(b, n)
	}
	return b
}

// bytesOf is an event's bytes, right or not.
func bytesOf(e api.Event) []byte {
	b := written(numbersOf(e)...)
	if e.Kind == 8 {
		return append(b, e.Body...)
	}
	return b
}

func saysPut(e api.Event) []byte {
	b := bytesOf(e)
	if !saysRight(e) || len(b) > 1800 {
		return nil
	}
	return b
}

func saysGet(kind int, b []byte) (api.Event, api.Errno) {
	r := wire.NewReader(b)
	num := func() int { return int(r.Num()) }
	e := api.Event{Kind: kind}
	switch kind {
	case 1:
		e.Util, e.Demand = r.Num(), r.Num()
	case 2:
		e.T = r.Num()
	case 3:
		e.Id = num()
		e.Pol = readPolicy(r)
	case 4:
		e.Conf = api.Conf{Min: num(), Max: num(), Rate: num(), Stable: r.Num(), Cap: r.Num(), Delay: num(), Slack: r.Num(), Window: num(), Margin: r.Num(), Ceil: num(), Probe: num(), Breach: num()}
	case 5:
		e.T, e.N = r.Num(), num()
	case 6, 7:
		e.Id = num()
	case 8:
		e.Body = r.Text(1700)
	default:
		return api.Event{}, 12
	}
	if wrong := r.End(); wrong != 0 {
		return api.Event{}, wrong
	}
	if !saysRight(e) {
		return api.Event{}, 12
	}
	return e, 0
}

func readPolicy(r *wire.Reader) api.Policy {
	p := api.Policy{Kind: int(r.Num()), Target: r.Num()}
	for range r.Int(0, 8) {
		p.Bands = append(p.Bands, api.Band{Above: r.Num(), Delta: int(r.Num())})
	}
	p.Kp, p.Ki, p.Kd, p.Period = r.Num(), r.Num(), r.Num(), r.Num()
	for range r.Int(0, 8) {
		p.Slots = append(p.Slots, api.Slot{From: r.Num(), N: int(r.Num())})
	}
	return p
}

// What is alike: lists by what stands in them.

func alike(a, b api.Event) bool {
	if !alikePolicies(a.Pol, b.Pol) || !bytes.Equal(a.Body, b.Body) {
		return false
	}
	a.Pol, a.Body, b.Pol, b.Body = api.Policy{}, nil, api.Policy{}, nil
	return reflect.DeepEqual(a, b)
}

func alikePolicies(a, b api.Policy) bool {
	if !slices.Equal(a.Bands, b.Bands) || !slices.Equal(a.Slots, b.Slots) {
		return false
	}
	a.Bands, a.Slots, b.Bands, b.Slots = nil, nil, nil, nil
	return reflect.DeepEqual(a, b)
}

// Some policies, configurations and events, all of them right, and new with each call.

func track() api.Policy { return api.Policy{Kind: api.PolTrack, Target: 700} }

func pid() api.Policy { return api.Policy{Kind: api.PolPid, Target: 600, Kp: 1500, Ki: -20, Kd: 300} }

// step is one of n bands, sched one of n slots.
func step(n int) api.Policy {
	p := api.Policy{Kind: api.PolStep}
	for i := range n {
		p.Bands = append(p.Bands, api.Band{Above: int64(i * 130), Delta: 3*i - 4})
	}
	return p
}

func sched(n int) api.Policy {
	p := api.Policy{Kind: api.PolSched, Period: int64(max(n, 1) * 100)}
	for i := range n {
		p.Slots = append(p.Slots, api.Slot{From: int64(i * 100), N: 5 * i})
	}
	return p
}

func policies() []api.Policy {
	return []api.Policy{track(), pid(), step(1), step(2), step(8), sched(1), sched(2), sched(8)}
}

func conf() api.Conf {
	return api.Conf{Min: 2, Max: 20, Rate: 4, Stable: 300, Cap: 100, Delay: 3, Slack: 50, Window: 16, Margin: 200, Ceil: 5, Probe: 7, Breach: 6}
}

func events() []api.Event {
	l := []api.Event{
		{Kind: api.InSample, Util: 700, Demand: -3000},
		{Kind: api.InSample},
		{Kind: api.InTick, T: 90},
		{Kind: api.InTick, T: math.MinInt64},
		{Kind: api.InPolicy, Id: 1},
		{Kind: api.InPolicy, Id: 3},
		{Kind: api.InConf, Conf: conf()},
		{Kind: api.OutDecision, T: 1 << 30, N: 900},
		{Kind: api.OutPromote, Id: 2},
		{Kind: api.OutRollback, Id: 1},
		{Kind: api.OutSnapshot},
		{Kind: api.OutSnapshot, Body: []byte("what a controller knows, as bytes: \x00\x80\xff, and more than 64 of them")},
	}
	for i, p := range policies() {
		l = append(l, api.Event{Kind: api.InPolicy, Id: i % 4, Pol: p})
	}
	return l
}

// leaf is a number, or a list, within an event.
type leaf struct {
	name  string
	value reflect.Value
}

// leaves is all of them but the event's own kind, found by what the type has, so that none is left out.
func leaves(e *api.Event) []leaf {
	l := within("", reflect.ValueOf(e).Elem())
	return slices.DeleteFunc(l, func(l leaf) bool { return l.name == ".Kind" })
}

func within(name string, v reflect.Value) []leaf {
	if v.Kind() != reflect.Struct {
		return []leaf{{name, v}}
	}
	var l []leaf
	for i := range v.NumField() {
		l = append(l, within(name+"."+v.Type().Field(i).Name, v.Field(i))...)
	}
	return l
}

// set is a number, or a list of so many rows, each of them zero.
func (l leaf) set(n int64) {
	if l.value.Kind() == reflect.Slice {
		l.value.Set(reflect.MakeSlice(l.value.Type(), int(n), int(n)))
		return
	}
	l.value.SetInt(n)
}

func (l leaf) isList() bool { return l.value.Kind() == reflect.Slice }

// What is asked for.

func wantRight(t *testing.T, name string, e api.Event) {
	t.Helper()
	want := bytesOf(e)
	if !event.Right(e) {
		t.Errorf("%s is not right: %v", name, e)
	}
	if b := event.Put(e); !bytes.Equal(b, want) {
		t.Errorf("%s: bytes %x, not %x", name, b, want)
	}
	if got, f := event.Get(e.Kind, want); f != api.OK || !alike(got, e) {
		t.Errorf("%s: got %v, error %d, not %v", name, got, f, e)
	}
}

// wantWrong asks also for its bytes, which are those of no event, where all that it has stands in them.
func wantWrong(t *testing.T, name string, e api.Event) {
	t.Helper()
	if event.Right(e) {
		t.Errorf("%s is right: %v", name, e)
	}
	if b := event.Put(e); len(b) > 0 {
		t.Errorf("%s: bytes %x", name, b)
	}
	if alike(e, ownOf(e)) {
		wantGet(t, name, e.Kind, bytesOf(e), api.ErrForm)
	}
}

// wantPolicy asks the same of a policy, and of the events of it.
func wantPolicy(t *testing.T, name string, p api.Policy, right bool) {
	t.Helper()
	if event.Policy(p) != right {
		t.Errorf("%s: a policy that is right is %t: %v", name, !right, p)
	}
	for id := range 4 {
		e := api.Event{Kind: api.InPolicy, Id: id, Pol: p}
		if right {
			wantRight(t, name, e)
		} else {
			wantWrong(t, name, e)
		}
	}
}

func wantConf(t *testing.T, name string, c api.Conf, right bool) {
	t.Helper()
	if event.Conf(c) != right {
		t.Errorf("%s: a configuration that is right is %t: %v", name, !right, c)
	}
	if right {
		wantRight(t, name, api.Event{Kind: api.InConf, Conf: c})
	} else {
		wantWrong(t, name, api.Event{Kind: api.InConf, Conf: c})
	}
}

func wantGet(t *testing.T, name string, kind int, b []byte, want api.Errno) {
	t.Helper()
	e, f := event.Get(kind, b)
	if f != want {
		t.Errorf("%s: kind %d of %.60x: error %d, not %d", name, kind, b, f, want)
	}
	if f != api.OK && !reflect.ValueOf(e).IsZero() {
		t.Errorf("%s: kind %d of %.60x: %v beside error %d", name, kind, b, e, f)
	}
}

// unlike tells where the program gets something else than the words do; nothing, if it gets the same, of which it makes the same bytes.
func unlike(kind int, b []byte) string {
	got, f := event.Get(kind, b)
	want, wrong := saysGet(kind, b)
	if f != wrong || !alike(got, want) {
		return fmt.Sprintf("kind %d of %.60x: %v, error %d, not %v, error %d", kind, b, got, f, want, wrong)
	}
	if f != api.OK && !reflect.ValueOf(got).IsZero() {
		return fmt.Sprintf("kind %d of %.60x: a list beside error %d", kind, b, f)
	}
	if f == api.OK && !bytes.Equal(event.Put(got), b) {
		return fmt.Sprintf("kind %d of %.60x is put as %.60x", kind, b, event.Put(got))
	}
	return ""
}

func wantHeld(t *testing.T, kind int, b []byte) {
	if wrong := unlike(kind, b); wrong != "" {
		t.Helper()
		t.Error(wrong)
	}
}

// kinds is each kind, and some that are none.
func kinds() []int {
	return []int{1, 2, 3, 4, 5, 6, 7, 8, 0, 9, 10, -1, -2, 255, 256, 257, 1<<32 + 1, math.MaxInt, math.MinInt}
}

// Numbers, and events, at random.

// anyOf is a number from least to most, at a bound as often as not.
func anyOf(r *rand.Rand, least, most int64) int64 {
	switch r.IntN(4) {
	case 0:
		return least
	case 1:
		return most
	}
	return least + int64(r.Uint64N(uint64(most-least)+1))
}

// anyNum is of each size as often as of another one.
func anyNum(r *rand.Rand) int64 { return int64(r.Uint64()) >> r.IntN(64) }

func anyPolicy(r *rand.Rand) api.Policy {
	p := api.Policy{Kind: 1 + r.IntN(4)}
	switch p.Kind {
	case api.PolTrack:
		p.Target = anyOf(r, 1, api.MaxFix)
	case api.PolStep:
		for _, n := range rising(r, 0, api.MaxFix) {
			p.Bands = append(p.Bands, api.Band{Above: n, Delta: int(anyOf(r, -1000, 1000))})
		}
	case api.PolPid:
		weight := func() int64 { return anyOf(r, -api.MaxFix, api.MaxFix) }
		p.Target, p.Kp, p.Ki, p.Kd = anyOf(r, 1, api.MaxFix), weight(), weight(), weight()
	case api.PolSched:
		p.Period = anyOf(r, 1, api.MaxTime)
		from := rising(r, 0, p.Period-1)
		from[0] = 0
		for _, n := range from {
			p.Slots = append(p.Slots, api.Slot{From: n, N: int(anyOf(r, 0, 1000))})
		}
	}
	return p
}

// rising is 1 to 8 numbers that rise.
func rising(r *rand.Rand, least, most int64) []int64 {
	l := []int64{anyOf(r, least, most)}
	for range r.IntN(8) {
		l = append(l, anyOf(r, least, most))
	}
	slices.Sort(l)
	return slices.Compact(l)
}

func anyConf(r *rand.Rand) api.Conf {
	n := func(least, most int64) int { return int(anyOf(r, least, most)) }
	c := api.Conf{Max: n(1, 1000), Rate: n(1, 1000), Stable: anyOf(r, 0, api.MaxTime), Cap: anyOf(r, 1, api.MaxDemand), Delay: n(0, 8), Slack: anyOf(r, 0, api.MaxFix), Window: n(1, 32), Margin: anyOf(r, 0, api.MaxFix), Ceil: n(0, 32), Probe: n(1, 32), Breach: n(0, 32)}
	c.Min = n(1, int64(c.Max))
	return c
}

// anyEvent is one that is right.
func anyEvent(r *rand.Rand) api.Event {
	e := api.Event{Kind: 1 + r.IntN(8)}
	switch e.Kind {
	case api.InSample:
		e.Util, e.Demand = anyNum(r), anyNum(r)
	case api.InTick:
		e.T = anyNum(r)
	case api.InPolicy:
		e.Id, e.Pol = r.IntN(4), anyPolicy(r)
		if e.Id != 0 && r.IntN(4) == 0 {
			e.Pol = api.Policy{}
		}
	case api.InConf:
		e.Conf = anyConf(r)
	case api.OutDecision:
		e.T, e.N = anyOf(r, 0, api.MaxTime), int(anyOf(r, 0, 1000))
	case api.OutPromote, api.OutRollback:
		e.Id = r.IntN(4)
	case api.OutSnapshot:
		e.Body = randomBytes(r, int(anyOf(r, 0, int64(1)<<r.IntN(10))))
	}
	return e
}

func randomBytes(r *rand.Rand, n int) []byte {
	b := make([]byte, n)
	for i := range b {
		b[i] = byte(r.IntN(256))
	}
	return b
}
