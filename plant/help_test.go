package plant_test

import (
	"fmt"
	"math"
	"math/rand/v2"
	"slices"
	"testing"

	"governor/api"
	"governor/event"
	"governor/plant"
)

const (
	mostRep    = 1000
	mostDelay  = 8
	mostDemand = 1000000
	mostFix    = 1000000000
)

// call is what Step is asked.
type call struct {
	c      api.Conf
	p      api.Plant
	want   int
	demand int64
}

func (x call) step() (api.Plant, api.Mark) { return plant.Step(x.c, x.p, x.want, x.demand) }

func (x call) String() string {
	return fmt.Sprintf("Step of Cap %d, Delay %d, Slack %d, %+v, %d wanted, %d that come", x.c.Cap, x.c.Delay, x.c.Slack, x.p, x.want, x.demand)
}

// standing is a plant's replicas by the ticks until they are ready: at 0 those that are.
type standing [1 + mostDelay]int

func standingOf(p api.Plant) standing {
	s := standing{p.Ready}
	copy(s[1:], p.Start)
	return s
}

func (s standing) all() int {
	n := 0
	for _, there := range s {
		n += there
	}
	return n
}

// later is those of a tick later.
func (s standing) later() standing {
	next := standing{s[0]}
	for ticks, n := range s[1:] {
		next[ticks] += n
	}
	return next
}

// start is Start of these, with no noughts at its end.
func (s standing) start() []int {
	end := 0
	for ticks, n := range s {
		if n > 0 {
			end = ticks
		}
	}
	return slices.Clone(s[1 : 1+end])
}

// says is Q2 by the chapter's words: replicas begin and go one by one, and sums are held to their bounds by hand.
func says(x call) (api.Plant, api.Mark) {
	s := standingOf(x.p).later()
	want := max(0, min(x.want, mostRep))
	s[x.c.Delay] += max(0, want-s.all())
	ticks := mostDelay
	for range max(0, s.all()-want) {
		for s[ticks] == 0 {
			ticks--
		}
		s[ticks]--
	}
	todo := min(x.p.Wait+max(0, min(x.demand, mostDemand)), mostFix)
	can := min(int64(s[0])*x.c.Cap, mostFix)
	next := api.Plant{Ready: s[0], Start: s.start()}
	if todo > can {
		next.Wait = todo - can
	}
	switch {
	case can > 0:
		next.Util = min(1000*todo/can, mostFix)
	case todo > 0:
		next.Util = mostFix
	}
	return next, api.Mark{Cost: int64(s.all()), Bad: next.Wait > x.c.Slack}
}

// alike holds two plants against each other, by what stands in them.
func alike(a, b api.Plant) bool {
	return a.Ready == b.Ready && slices.Equal(a.Start, b.Start) && a.Wait == b.Wait && a.Util == b.Util
}

func wantStep(t *testing.T, x call, next api.Plant, mark api.Mark) {
	if p, m := x.step(); !alike(p, next) || m != mark {
		t.Helper()
		t.Errorf("%v is %+v, %+v, not %+v, %+v", x, p, m, next, mark)
	}
}

func wantNew(t *testing.T, n, ready int) {
	if p := plant.New(n); !alike(p, api.Plant{Ready: ready}) {
		t.Helper()
		t.Errorf("New of %d is %+v, and has not just %d that are ready", n, p, ready)
	}
}

func wantAll(t *testing.T, p api.Plant, all int) {
	if n := plant.All(p); n != all {
		t.Helper()
		t.Errorf("All of %+v is %d, not %d", p, n, all)
	}
}

// asSaid asks for what the words say, of a call that may be.
func asSaid(t *testing.T, x call) {
	t.Helper()
	mayBe(t, x)
	next, mark := says(x)
	wantStep(t, x, next, mark)
	wantAll(t, x.p, standingOf(x.p).all())
}

// right asks whether a plant is, by the chapter's words.
func right(p api.Plant) bool {
	if len(p.Start) > mostDelay || p.Ready < 0 || p.Wait < 0 || p.Wait > mostFix || p.Util < 0 || p.Util > mostFix {
		return false
	}
	for _, n := range p.Start {
		if n < 0 || n > mostRep {
			return false
		}
	}
	return standingOf(p).all() <= mostRep
}

// mayBe asks whether a configuration and a plant are right, so that no test asks for the answers of others unawares.
func mayBe(t *testing.T, x call) {
	if !event.Conf(x.c) || !right(x.p) {
		t.Helper()
		t.Fatalf("of %v nothing is said", x)
	}
}

// conf is a configuration of these three numbers, and of ordinary ones beside.
func conf(capacity int64, delay int, slack int64) api.Conf {
	return api.Conf{Min: 1, Max: 20, Rate: 4, Stable: 3, Cap: capacity, Delay: delay, Slack: slack, Window: 4, Margin: 2, Ceil: 1, Probe: 3, Breach: 1}
}

// of is a plant of so many that are ready, and so many that begin, with nothing that waits.
func of(ready int, start ...int) api.Plant { return api.Plant{Ready: ready, Start: start} }

// confs is ordinary ones, and those at the bounds of Cap, Delay and Slack.
func confs() []api.Conf {
	var all []api.Conf
	for _, capacity := range []int64{1, 100, mostDemand} {
		for _, delay := range []int{0, 1, 3, 7, mostDelay} {
			for _, slack := range []int64{0, 50, mostFix} {
				all = append(all, conf(capacity, delay, slack))
			}
		}
	}
	return all
}

// starts is lists of those that begin: none, noughts at each place and at the end, and as many places as may be.
func starts() [][]int {
	all := [][]int{nil, {}, {0}, {3}, {0, 0}, {0, 3}, {3, 0}, {3, 4}, {1, 2, 3, 4, 5, 6, 7, 8}, {0, 0, 0, 0, 0, 0, 0, 0}, {0, 0, 0, 0, 0, 0, 0, 9}, {9, 0, 0, 0, 0, 0, 0, 0}, {125, 125, 125, 125, 125, 125, 125, 125}, {mostRep}, {0, 0, 0, 0, 0, 0, 0, mostRep}}
	for place := range mostDelay {
		l := []int{2, 2, 2, 2, 2, 2, 2, 2}
		l[place] = 0
		all = append(all, l, l[:place], l[:place+1])
	}
	return all
}

// plants is those with each of these lists, with none that are ready, one, some, and as many as there may be beside.
func plants() []api.Plant {
	var all []api.Plant
	for _, start := range starts() {
		most := mostRep - plant.All(of(0, start...))
		for _, ready := range []int{0, 1, 5, most - 1, most} {
			if ready >= 0 && ready <= most {
				all = append(all, of(ready, start...))
			}
		}
	}
	return all
}

// farAway is the least and the greatest number, and those beside and close to them.
func farAway() []int64 {
	return []int64{math.MinInt64, math.MinInt64 + 1, math.MinInt64 + mostRep, -mostFix, math.MaxInt64 - mostFix, math.MaxInt64 - mostRep, math.MaxInt64 - 1, math.MaxInt64}
}

// wanted is how many may be wanted of a plant: just as many as there are, one beside it, at each of its places' ends, and at all bounds.
func wanted(p api.Plant) []int {
	var all []int
	for _, n := range append(farAway(), -1, 0, 1, mostRep-1, mostRep, mostRep+1) {
		all = append(all, int(n))
	}
	up := 0
	for _, n := range standingOf(p).later() {
		up += n
		all = append(all, up-1, up, up+1)
	}
	return all
}

// coming is how much may come, where so much can be done: just that, one beside it, and at all bounds.
func coming(can int64) []int64 {
	return append(farAway(), -1, 0, 1, can-1, can, can+1, mostDemand-1, mostDemand, mostDemand+1)
}

// edges asks f for configurations at all bounds, with plants at all bounds, with what is wanted and what comes at all bounds.
func edges(t *testing.T, f func(x call)) {
	for _, c := range confs() {
		for _, p := range plants() {
			for i, want := range wanted(p) {
				x := call{c, p, want, 0}
				mayBe(t, x)
				said, _ := says(x)
				can := int64(said.Ready) * c.Cap
				l := coming(can)
				for j, wait := range []int64{0, 50, c.Slack, min(can+c.Slack, mostFix), mostFix - mostDemand, mostFix} {
					x.p.Wait, x.demand = wait, l[(i+j)%len(l)]
					f(x)
				}
			}
		}
	}
}

// small asks f for all small plants, with all small numbers that are wanted, and that come.
func small(f func(x call)) {
	for delay := range 4 {
		for places := range 27 {
			for ready := range 3 {
				p := of(ready, places%3, places/3%3, places/9)
				for want := -1; want <= 9; want++ {
					for demand := int64(-1); demand <= 5; demand += 2 {
						p.Wait = demand + 1
						f(call{conf(2, delay, 3), p, want, demand})
					}
				}
			}
		}
	}
}

// random is a number of any size, on either side.
func random(r *rand.Rand) int64 { return int64(r.Uint64()) >> r.IntN(64) }

// near is one that is a few beside a number, or it.
func near(r *rand.Rand, n int64) int64 { return n + int64(r.IntN(5)) - 2 }

// between is one from least to most, often one of these two or close to it.
func between[N int | int64](r *rand.Rand, least, most N) N {
	n := N(r.Int64N(int64(most-least)+1) >> r.IntN(31))
	if r.IntN(3) == 0 {
		return most - n
	}
	return least + n
}

// randomConf is any that is right.
func randomConf(r *rand.Rand) api.Conf {
	most := between(r, 1, mostRep)
	return api.Conf{
		Min: between(r, 1, most), Max: most, Rate: between(r, 1, mostRep), Stable: between[int64](r, 0, 1<<40),
		Cap: between[int64](r, 1, mostDemand), Delay: r.IntN(1 + mostDelay), Slack: between[int64](r, 0, mostFix),
		Window: between(r, 1, 32), Margin: between[int64](r, 0, mostFix), Ceil: between(r, 0, 32), Probe: between(r, 1, 32), Breach: between(r, 0, 32),
	}
}

// randomStart is any list of those that begin, of as many replicas in all as are told, at most.
func randomStart(r *rand.Rand, most int) []int {
	start := make([]int, r.IntN(1+mostDelay))
	for place := range start {
		if r.IntN(3) > 0 {
			start[place] = between(r, 0, most)
			most -= start[place]
		}
	}
	r.Shuffle(len(start), func(i, j int) { start[i], start[j] = start[j], start[i] })
	return start
}

// randomPlant is any that is right, often with all that there may be.
func randomPlant(r *rand.Rand) api.Plant {
	ready := between(r, 0, mostRep)
	p := of(ready, randomStart(r, mostRep-ready)...)
	p.Wait, p.Util = between[int64](r, 0, mostFix), between[int64](r, 0, mostFix)
	return p
}

// randomCall is of any numbers, often close to those at which something changes.
func randomCall(r *rand.Rand) call {
	x := call{c: randomConf(r), p: randomPlant(r)}
	l := wanted(x.p)
	x.want = l[r.IntN(len(l))]
	switch r.IntN(4) {
	case 0:
		x.want = between(r, 0, mostRep)
	case 1:
		x.want = int(random(r))
	}
	said, _ := says(x)
	can := int64(said.Ready) * x.c.Cap
	if r.IntN(3) == 0 {
		x.p.Wait = max(0, min(near(r, can+x.c.Slack), mostFix))
	}
	switch r.IntN(4) {
	case 0:
		x.demand = random(r)
	case 1:
		x.demand = between[int64](r, 0, mostDemand)
	default:
		// With what waits it is often just what can be done, or that and what may wait.
		x.demand = near(r, []int64{can, can + x.c.Slack, mostFix}[r.IntN(3)]-x.p.Wait)
	}
	return x
}
