package event_test

import (
	"bytes"
	"math"
	"strconv"
	"strings"
	"testing"

	"governor/api"
	"governor/event"
)

// P9.1, I1: what is right.

func TestEventsOfEachKind(t *testing.T) {
	for i, e := range events() {
		wantRight(t, "event "+strconv.Itoa(i), e)
	}
}

func TestBytesOfEvents(t *testing.T) {
	for _, c := range []struct {
		e    api.Event
		want string
	}{
		{api.Event{Kind: api.InTick}, "\x00"},
		{api.Event{Kind: api.InTick, T: -1}, "\x01"},
		{api.Event{Kind: api.InTick, T: math.MinInt64}, "\xff\xff\xff\xff\xff\xff\xff\xff\xff\x01"},
		{api.Event{Kind: api.InSample, Util: 1, Demand: 64}, "\x02\x80\x01"},
		{api.Event{Kind: api.InPolicy, Id: 3}, "\x06\x00\x00\x00\x00\x00\x00\x00\x00"},
		{api.Event{Kind: api.InPolicy, Pol: api.Policy{Kind: api.PolTrack, Target: 5}}, "\x00\x02\x0a\x00\x00\x00\x00\x00\x00"},
		{api.Event{Kind: api.InPolicy, Id: 2, Pol: api.Policy{Kind: api.PolStep, Bands: []api.Band{{Above: 1, Delta: -2}, {Above: 3, Delta: 4}}}}, "\x04\x04\x00\x04\x02\x03\x06\x08\x00\x00\x00\x00\x00"},
		{api.Event{Kind: api.InPolicy, Pol: api.Policy{Kind: api.PolPid, Target: 1, Kp: 2, Ki: -3, Kd: 4}}, "\x00\x06\x02\x00\x04\x05\x08\x00\x00"},
		{api.Event{Kind: api.InPolicy, Id: 1, Pol: api.Policy{Kind: api.PolSched, Period: 7, Slots: []api.Slot{{From: 0, N: 1}, {From: 2, N: 3}}}}, "\x02\x08\x00\x00\x00\x00\x00\x0e\x04\x00\x02\x04\x06"},
		{api.Event{Kind: api.InConf, Conf: api.Conf{Min: 1, Max: 2, Rate: 3, Stable: 4, Cap: 5, Delay: 6, Slack: 7, Window: 8, Margin: 9, Ceil: 10, Probe: 11, Breach: 12}}, "\x02\x04\x06\x08\x0a\x0c\x0e\x10\x12\x14\x16\x18"},
		{api.Event{Kind: api.OutDecision, T: 1, N: 2}, "\x02\x04"},
		{api.Event{Kind: api.OutPromote, Id: 1}, "\x02"},
		{api.Event{Kind: api.OutRollback, Id: 3}, "\x06"},
		{api.Event{Kind: api.OutSnapshot}, "\x00"},
		{api.Event{Kind: api.OutSnapshot, Body: []byte{0, 255, 7}}, "\x06\x00\xff\x07"},
	} {
		wantRight(t, "kind "+strconv.Itoa(c.e.Kind), c.e)
		if b := event.Put(c.e); string(b) != c.want {
			t.Errorf("%v: bytes %x, not %x", c.e, b, c.want)
		}
	}
}

func TestEventsOfNoKind(t *testing.T) {
	for _, kind := range kinds()[8:] {
		wantWrong(t, "an event of nothing", api.Event{Kind: kind})
		for _, e := range events() {
			e.Kind = kind
			wantWrong(t, "an event", e)
			wantGet(t, "an event's bytes", kind, bytesOf(e), api.ErrForm)
		}
		for _, b := range []string{"", "\x00", "\x80", "\x00\x00", "\xff\xff\xff\xff\xff\xff\xff\xff\xff\xff\xff"} {
			wantGet(t, "no kind", kind, []byte(b), api.ErrForm)
		}
	}
}

// has tells which leaves an event of each kind has, by what their names begin with.
func has(kind int, name string) bool {
	for _, own := range [][]string{1: {".Util", ".Demand"}, 2: {".T"}, 3: {".Id", ".Pol."}, 4: {".Conf."}, 5: {".T", ".N"}, 6: {".Id"}, 7: {".Id"}, 8: {".Body"}}[kind] {
		if name == own || strings.HasSuffix(own, ".") && strings.HasPrefix(name, own) {
			return true
		}
	}
	return false
}

// Of each kind each part that it has not, set to something: one row, or many, of a list, also of zero ones, any number.
func TestPartsOfOtherKinds(t *testing.T) {
	for i := range events() {
		for j := range leaves(&api.Event{}) {
			for _, n := range []int64{1, 2, 8, 9, -1, 1000, 1 << 32, math.MaxInt64, math.MinInt64} {
				e := events()[i]
				l := leaves(&e)[j]
				if has(e.Kind, l.name) || l.isList() && (n < 0 || n > 1000) {
					continue
				}
				l.set(n)
				wantWrong(t, "kind "+strconv.Itoa(e.Kind)+" with "+l.name, e)
			}
		}
	}
}

// A part as a whole, which for another kind is right.
func TestWholePartsOfOtherKinds(t *testing.T) {
	for _, e := range events() {
		for _, p := range policies() {
			if f := e; f.Kind != api.InPolicy {
				f.Pol = p
				wantWrong(t, "with a policy", f)
			}
		}
		if f := e; f.Kind != api.InConf {
			f.Conf = conf()
			wantWrong(t, "with a configuration", f)
		}
		if f := e; f.Kind != api.OutSnapshot {
			f.Body = []byte("a")
			wantWrong(t, "with a text", f)
		}
	}
}

// An empty list may be nil or not, also where there is to be none.
func TestEmptyLists(t *testing.T) {
	for i, e := range events() {
		if len(e.Pol.Bands) == 0 {
			e.Pol.Bands = []api.Band{}
		}
		if len(e.Pol.Slots) == 0 {
			e.Pol.Slots = make([]api.Slot, 0, 4)
		}
		if len(e.Body) == 0 {
			e.Body = []byte{}
		}
		wantRight(t, "event "+strconv.Itoa(i)+" with empty lists", e)
		if e.Kind == api.InPolicy && e.Pol.Kind != 0 {
			wantPolicy(t, "with empty lists", e.Pol, true)
		}
	}
	e := api.Event{Kind: api.InPolicy, Pol: step(2)}
	e.Pol.Bands = e.Pol.Bands[:0]
	wantWrong(t, "a list that was cut to nothing", e)
}

// bounded is a number of something right that has bounds: it is changed, and then within them or not.
type bounded struct {
	name        string
	set         func(n int64) api.Event
	least, most int64
}

func boundedOfEvents() []bounded {
	return []bounded{
		{"the Id of a policy", func(n int64) api.Event { return api.Event{Kind: api.InPolicy, Id: int(n), Pol: track()} }, 0, 3},
		{"the Id of the zero policy", func(n int64) api.Event { return api.Event{Kind: api.InPolicy, Id: int(n)} }, 1, 3},
		{"the T of a decision", func(n int64) api.Event { return api.Event{Kind: api.OutDecision, T: n, N: 3} }, 0, 1 << 40},
		{"the N of a decision", func(n int64) api.Event { return api.Event{Kind: api.OutDecision, T: 3, N: int(n)} }, 0, 1000},
		{"the Id of a promotion", func(n int64) api.Event { return api.Event{Kind: api.OutPromote, Id: int(n)} }, 0, 3},
		{"the Id of a rollback", func(n int64) api.Event { return api.Event{Kind: api.OutRollback, Id: int(n)} }, 0, 3},
		{"the Util of a sample", func(n int64) api.Event { return api.Event{Kind: api.InSample, Util: n, Demand: 3} }, math.MinInt64, math.MaxInt64},
		{"the Demand of a sample", func(n int64) api.Event { return api.Event{Kind: api.InSample, Util: 3, Demand: n} }, math.MinInt64, math.MaxInt64},
		{"the T of a tick", func(n int64) api.Event { return api.Event{Kind: api.InTick, T: n} }, math.MinInt64, math.MaxInt64},
	}
}

func boundedOfPolicies() []bounded {
	of := func(name string, p func() api.Policy, set func(p *api.Policy, n int64), least, most int64) bounded {
		return bounded{name, func(n int64) api.Event {
			p := p()
			set(&p, n)
			return api.Event{Kind: api.InPolicy, Pol: p}
		}, least, most}
	}
	steps := func() api.Policy { return step(3) }
	slots := func() api.Policy { return sched(3) }
	return []bounded{
		of("the Target of a track", track, func(p *api.Policy, n int64) { p.Target = n }, 1, 1e9),
		of("the Target of a pid", pid, func(p *api.Policy, n int64) { p.Target = n }, 1, 1e9),
		of("Kp", pid, func(p *api.Policy, n int64) { p.Kp = n }, -1e9, 1e9),
		of("Ki", pid, func(p *api.Policy, n int64) { p.Ki = n }, -1e9, 1e9),
		of("Kd", pid, func(p *api.Policy, n int64) { p.Kd = n }, -1e9, 1e9),
		of("the first Above", steps, func(p *api.Policy, n int64) { p.Bands[0].Above = n }, 0, 129),
		of("an Above between", steps, func(p *api.Policy, n int64) { p.Bands[1].Above = n }, 1, 259),
		of("the last Above", steps, func(p *api.Policy, n int64) { p.Bands[2].Above = n }, 131, 1e9),
		of("the first Delta", steps, func(p *api.Policy, n int64) { p.Bands[0].Delta = int(n) }, -1000, 1000),
		of("the last Delta", steps, func(p *api.Policy, n int64) { p.Bands[2].Delta = int(n) }, -1000, 1000),
		of("the only Above", func() api.Policy { return step(1) }, func(p *api.Policy, n int64) { p.Bands[0].Above = n }, 0, 1e9),
		of("a Period", slots, func(p *api.Policy, n int64) { p.Period = n }, 201, 1<<40),
		of("a Period of one slot", func() api.Policy { return sched(1) }, func(p *api.Policy, n int64) { p.Period = n }, 1, 1<<40),
		of("the first From", slots, func(p *api.Policy, n int64) { p.Slots[0].From = n }, 0, 0),
		of("the only From", func() api.Policy { return sched(1) }, func(p *api.Policy, n int64) { p.Slots[0].From = n }, 0, 0),
		of("a From between", slots, func(p *api.Policy, n int64) { p.Slots[1].From = n }, 1, 199),
		of("the last From", slots, func(p *api.Policy, n int64) { p.Slots[2].From = n }, 101, 299),
		of("the first N", slots, func(p *api.Policy, n int64) { p.Slots[0].N = int(n) }, 0, 1000),
		of("the last N", slots, func(p *api.Policy, n int64) { p.Slots[2].N = int(n) }, 0, 1000),
		of("the greatest From", func() api.Policy { return api.Policy{Kind: api.PolSched, Period: 1 << 40, Slots: make([]api.Slot, 2)} }, func(p *api.Policy, n int64) { p.Slots[1].From = n }, 1, 1<<40-1),
	}
}

func boundedOfConfs() []bounded {
	of := func(name string, set func(c *api.Conf, n int64), least, most int64) bounded {
		return bounded{name, func(n int64) api.Event {
			c := conf()
			set(&c, n)
			return api.Event{Kind: api.InConf, Conf: c}
		}, least, most}
	}
	return []bounded{
		of("Min", func(c *api.Conf, n int64) { c.Min = int(n) }, 1, 20),
		of("Max", func(c *api.Conf, n int64) { c.Max = int(n) }, 2, 1000),
		of("Min and Max", func(c *api.Conf, n int64) { c.Min, c.Max = int(n), int(n) }, 1, 1000),
		of("Rate", func(c *api.Conf, n int64) { c.Rate = int(n) }, 1, 1000),
		of("Stable", func(c *api.Conf, n int64) { c.Stable = n }, 0, 1<<40),
		of("Cap", func(c *api.Conf, n int64) { c.Cap = n }, 1, 1e6),
		of("Delay", func(c *api.Conf, n int64) { c.Delay = int(n) }, 0, 8),
		of("Slack", func(c *api.Conf, n int64) { c.Slack = n }, 0, 1e9),
		of("Window", func(c *api.Conf, n int64) { c.Window = int(n) }, 1, 32),
		of("Margin", func(c *api.Conf, n int64) { c.Margin = n }, 0, 1e9),
		of("Ceil", func(c *api.Conf, n int64) { c.Ceil = int(n) }, 0, 32),
		of("Probe", func(c *api.Conf, n int64) { c.Probe = int(n) }, 1, 32),
		of("Breach", func(c *api.Conf, n int64) { c.Breach = int(n) }, 0, 32),
	}
}

// numbers is each bound and those beside it, on both sides, and such as would be right if only some of their bits counted.
func (c bounded) numbers() []int64 {
	l := []int64{c.least, c.most, c.least + (c.most-c.least)/2, math.MaxInt64, math.MinInt64, c.least + 1<<32, c.most - 1<<32, 1 << 62, 0, -1, 1}
	if c.least > math.MinInt64 {
		l = append(l, c.least-1, c.least+1, c.most-1, c.most+1)
	}
	return l
}

func TestBounds(t *testing.T) {
	for _, c := range append(append(boundedOfEvents(), boundedOfPolicies()...), boundedOfConfs()...) {
		for _, n := range c.numbers() {
			name, e, right := c.name+" of "+strconv.FormatInt(n, 10), c.set(n), c.least <= n && n <= c.most
			switch {
			case e.Kind == api.InConf:
				wantConf(t, name, e.Conf, right)
			case e.Kind == api.InPolicy && e.Pol.Kind != 0 && e.Id == 0:
				wantPolicy(t, name, e.Pol, right)
			case right:
				wantRight(t, name, e)
			default:
				wantWrong(t, name, e)
			}
		}
	}
}

// All bounds at once.
func TestAllAtTheirBounds(t *testing.T) {
	least := api.Conf{Min: 1, Max: 1, Rate: 1, Cap: 1, Window: 1, Probe: 1}
	most := api.Conf{Min: 1000, Max: 1000, Rate: 1000, Stable: 1 << 40, Cap: 1e6, Delay: 8, Slack: 1e9, Window: 32, Margin: 1e9, Ceil: 32, Probe: 32, Breach: 32}
	wantConf(t, "the least one", least, true)
	wantConf(t, "the most one", most, true)
	wantConf(t, "nothing", api.Conf{}, false)
	most.Min++
	wantConf(t, "Min above Max", most, false)
	most.Max++
	wantConf(t, "both above", most, false)
	wantPolicy(t, "the least pid", api.Policy{Kind: api.PolPid, Target: 1, Kp: -1e9, Ki: -1e9, Kd: -1e9}, true)
	wantPolicy(t, "the most pid", api.Policy{Kind: api.PolPid, Target: 1e9, Kp: 1e9, Ki: 1e9, Kd: 1e9}, true)
	wantPolicy(t, "a pid without weights", api.Policy{Kind: api.PolPid, Target: 1}, true)
	wantPolicy(t, "slots of each time", api.Policy{Kind: api.PolSched, Period: 3, Slots: []api.Slot{{From: 0}, {From: 1, N: 1000}, {From: 2}}}, true)
	wantPolicy(t, "more slots than times", api.Policy{Kind: api.PolSched, Period: 2, Slots: []api.Slot{{From: 0}, {From: 1, N: 1000}, {From: 2}}}, false)
}

func TestMinAboveMax(t *testing.T) {
	for _, c := range []struct {
		min, max int
		right    bool
	}{{1, 1, true}, {2, 1, false}, {1, 2, true}, {1000, 1000, true}, {1000, 999, false}, {1001, 1000, false}, {1, 0, false}, {0, 0, false}, {-1, -1, false}, {1, -1, false}, {math.MaxInt, 5, false}, {math.MinInt, 5, false}, {5, math.MinInt, false}} {
		f := conf()
		f.Min, f.Max = c.min, c.max
		wantConf(t, "Min and Max", f, c.right)
	}
}

// P9.1, I1: policies by their kinds.

func TestPoliciesOfEachKind(t *testing.T) {
	for _, p := range policies() {
		wantPolicy(t, "a policy", p, true)
	}
}

func TestPoliciesOfNoKind(t *testing.T) {
	for _, p := range append(policies(), api.Policy{}) {
		for _, kind := range kinds()[4:] {
			p.Kind = kind
			if event.Policy(p) {
				t.Error("of no kind, and right:", p)
			}
			if e := (api.Event{Kind: api.InPolicy, Id: 2, Pol: p}); kind != 0 || p.Target != 0 || len(p.Bands)+len(p.Slots) > 0 {
				wantWrong(t, "a policy of no kind", e)
			}
		}
	}
}

// Each kind of policy as each other one has parts that are not its own, and lacks some.
func TestPoliciesAsOtherKinds(t *testing.T) {
	for _, p := range policies() {
		own := p.Kind
		for kind := 1; kind <= 4; kind++ {
			p.Kind = kind
			wantPolicy(t, "kind "+strconv.Itoa(own)+" as "+strconv.Itoa(kind), p, kind == own || kind == api.PolPid && own == api.PolTrack)
		}
	}
}

// Of each kind each part of another one, set to something.
func TestPoliciesWithPartsOfOthers(t *testing.T) {
	own := [][]string{1: {"Target"}, 2: {"Bands"}, 3: {"Target", "Kp", "Ki", "Kd"}, 4: {"Period", "Slots"}}
	for i, p := range policies() {
		e := api.Event{Kind: api.InPolicy, Pol: p}
		for j, l := range leaves(&e) {
			name, is := strings.CutPrefix(l.name, ".Pol.")
			if !is || name == "Kind" || strings.Contains(" "+strings.Join(own[p.Kind], " ")+" ", " "+name+" ") {
				continue
			}
			for _, n := range []int64{1, 2, 8, 9, -1, 1000, 1e9, math.MaxInt64, math.MinInt64} {
				if l.isList() && (n < 0 || n > 1000) {
					continue
				}
				other := api.Event{Kind: api.InPolicy, Pol: policies()[i]}
				leaves(&other)[j].set(n)
				wantPolicy(t, "kind "+strconv.Itoa(p.Kind)+" with "+name, other.Pol, false)
			}
		}
	}
}

// The zero policy takes a shadow away; the live one's place has always a policy.
func TestZeroPolicy(t *testing.T) {
	if event.Policy(api.Policy{}) {
		t.Error("the zero policy is right")
	}
	wantWrong(t, "the zero policy of the live one", api.Event{Kind: api.InPolicy})
	for id := 1; id <= 3; id++ {
		wantRight(t, "the zero policy of a shadow", api.Event{Kind: api.InPolicy, Id: id})
		for j := range leaves(&api.Event{}) {
			e := api.Event{Kind: api.InPolicy, Id: id}
			if l := leaves(&e)[j]; l.name != ".Id" {
				l.set(5)
				wantWrong(t, "the zero policy with "+l.name, e)
			}
		}
	}
}

func TestHowManyRows(t *testing.T) {
	for n := range 20 {
		wantPolicy(t, strconv.Itoa(n)+" bands", step(n), n >= 1 && n <= 8)
		wantPolicy(t, strconv.Itoa(n)+" slots", sched(n), n >= 1 && n <= 8)
	}
	many := api.Policy{Kind: api.PolStep, Bands: make([]api.Band, 100000)}
	for i := range many.Bands {
		many.Bands[i].Above = int64(i)
	}
	wantPolicy(t, "many bands", many, false)
}

// Each two neighbours of rows are alike, or the other way round.
func TestRowsThatDoNotRise(t *testing.T) {
	for i := range 7 {
		p, q := step(8), sched(8)
		p.Bands[i+1].Above, q.Slots[i+1].From = p.Bands[i].Above, q.Slots[i].From
		wantPolicy(t, "two bands that are alike", p, false)
		wantPolicy(t, "two slots that are alike", q, false)
		p, q = step(8), sched(8)
		p.Bands[i], p.Bands[i+1] = p.Bands[i+1], p.Bands[i]
		q.Slots[i], q.Slots[i+1] = q.Slots[i+1], q.Slots[i]
		wantPolicy(t, "two bands the other way round", p, false)
		wantPolicy(t, "two slots the other way round", q, false)
		p, q = step(8), sched(8)
		p.Bands[i].Above, q.Slots[i+1].From = p.Bands[i+1].Above-1, q.Slots[i].From+1
		wantPolicy(t, "two bands side by side", p, true)
		wantPolicy(t, "two slots side by side", q, true)
	}
	p := step(3)
	p.Bands[2].Above = p.Bands[0].Above
	wantPolicy(t, "the first band and the last one alike", p, false)
}

// What rows have besides where they begin needs no order.
func TestRowsOfAnyOrderBeside(t *testing.T) {
	wantPolicy(t, "bands", api.Policy{Kind: api.PolStep, Bands: []api.Band{{Above: 0, Delta: 5}, {Above: 1, Delta: 5}, {Above: 2, Delta: -5}, {Above: 7, Delta: 0}}}, true)
	wantPolicy(t, "slots", api.Policy{Kind: api.PolSched, Period: 9, Slots: []api.Slot{{From: 0, N: 5}, {From: 1, N: 5}, {From: 2, N: 0}, {From: 7, N: 1000}}}, true)
}

func TestSizesOfTexts(t *testing.T) {
	for _, n := range []int{0, 1, 2, 63, 64, 127, 128, 1699, 1700} {
		wantRight(t, strconv.Itoa(n)+" bytes", api.Event{Kind: api.OutSnapshot, Body: bytes.Repeat([]byte{200}, n)})
	}
	for _, n := range []int{1701, 1702, 1797, 1798, 1799, 1800, 1801, 8192, 1 << 20} {
		wantWrong(t, strconv.Itoa(n)+" bytes", api.Event{Kind: api.OutSnapshot, Body: bytes.Repeat([]byte{200}, n)})
	}
}

// No right event has more bytes than MaxBody: of each kind the one with the most.
func TestTheMostBytes(t *testing.T) {
	bands, slots := api.Policy{Kind: api.PolStep}, api.Policy{Kind: api.PolSched, Period: 1 << 40}
	for i := range 8 {
		bands.Bands = append(bands.Bands, api.Band{Above: int64(1e9 - 7 + i), Delta: -1000})
		slots.Slots = append(slots.Slots, api.Slot{From: int64(1<<40 - 8 + i), N: 1000})
	}
	slots.Slots[0].From = 0
	for _, c := range []struct {
		e    api.Event
		size int
	}{
		{api.Event{Kind: api.InSample, Util: math.MinInt64, Demand: math.MaxInt64}, 20},
		{api.Event{Kind: api.InTick, T: math.MaxInt64}, 10},
		{api.Event{Kind: api.InPolicy, Id: 3, Pol: bands}, 1 + 3 + 8*7 + 5},
		{api.Event{Kind: api.InPolicy, Id: 3, Pol: slots}, 1 + 3 + 3 + 6 + 1 + 7*8 + 3},
		{api.Event{Kind: api.InPolicy, Id: 3, Pol: api.Policy{Kind: api.PolPid, Target: 1e9, Kp: -1e9, Ki: -1e9, Kd: -1e9}}, 1 + 1 + 5 + 1 + 15 + 2},
		{api.Event{Kind: api.InConf, Conf: api.Conf{Min: 1000, Max: 1000, Rate: 1000, Stable: 1 << 40, Cap: 1e6, Delay: 8, Slack: 1e9, Window: 32, Margin: 1e9, Ceil: 32, Probe: 32, Breach: 32}}, 30},
		{api.Event{Kind: api.OutDecision, T: 1 << 40, N: 1000}, 8},
		{api.Event{Kind: api.OutSnapshot, Body: make([]byte, 1700)}, 1702},
	} {
		wantRight(t, "the most bytes", c.e)
		if b := event.Put(c.e); len(b) != c.size || len(b) > api.MaxBody {
			t.Errorf("%v: %d bytes, not %d", c.e, len(b), c.size)
		}
	}
}
