package policy_test

import (
	"fmt"
	"math"
	"math/rand/v2"
	"slices"
	"testing"

	"governor/api"
	"governor/event"
	"governor/pid"
	"governor/policy"
	"governor/sched"
	"governor/step"
	"governor/track"
)

const (
	mostFix  = 1000000000
	mostRep  = 1000
	mostTime = 1 << 40
)

// call is what Next is asked.
type call struct {
	p    api.Policy
	s    api.State
	cur  int
	util int64
	t    int64
}

func (c call) next() (api.State, int) { return policy.Next(c.p, c.s, c.cur, c.util, c.t) }

func (c call) String() string {
	return fmt.Sprintf("Next of %+v, %+v, %d replicas, load %d, time %d", c.p, c.s, c.cur, c.util, c.t)
}

// within is how many there may be that is nearest to n.
func within(n int) int {
	if n < 0 {
		return 0
	}
	if n > mostRep {
		return mostRep
	}
	return n
}

// says is N1 by the chapter's words, with the layers' own calls.
func says(c call) (api.State, int) {
	cur := within(c.cur)
	switch c.p.Kind {
	case 1:
		return c.s, within(track.Want(c.p.Target, cur, c.util))
	case 2:
		return c.s, within(step.Want(c.p.Bands, cur, c.util))
	case 3:
		next, n := pid.Next(c.p, c.s, c.util)
		return next, within(cur + n)
	case 4:
		return c.s, within(sched.Want(c.p.Period, c.p.Slots, c.t))
	}
	return c.s, cur
}

// wantNext asks for one call's answers.
func wantNext(t *testing.T, c call, next api.State, want int) {
	if gotNext, got := c.next(); gotNext != next || got != want {
		t.Helper()
		t.Errorf("%v is %+v, %d, not %+v, %d", c, gotNext, got, next, want)
	}
}

// asSaid asks for what the words say.
func asSaid(t *testing.T, c call) {
	t.Helper()
	next, want := says(c)
	wantNext(t, c, next, want)
}

// mayBe asks whether a policy is right, or the zero one, so that no test asks for the answers of others unawares.
func mayBe(t *testing.T, p api.Policy) {
	if !event.Right(api.Event{Kind: api.InPolicy, Id: 1, Pol: p}) {
		t.Helper()
		t.Fatalf("there may be no policy %+v", p)
	}
}

func tracks(target int64) api.Policy { return api.Policy{Kind: 1, Target: target} }

func steps(l ...api.Band) api.Policy { return api.Policy{Kind: 2, Bands: l} }

func pids(target, kp, ki, kd int64) api.Policy {
	return api.Policy{Kind: 3, Target: target, Kp: kp, Ki: ki, Kd: kd}
}

func scheds(period int64, l ...api.Slot) api.Policy {
	return api.Policy{Kind: 4, Period: period, Slots: l}
}

// adds is a PolPid that wants so many more, or fewer, at a load of 2000, whatever is carried on.
func adds(n int) api.Policy { return pids(1000, int64(n)*1000, 0, 0) }

// manyBands is a policy of as many bands as there may be.
func manyBands() api.Policy {
	return steps(api.Band{Delta: -1000}, api.Band{Above: 1, Delta: -100}, api.Band{Above: 10, Delta: -10}, api.Band{Above: 300, Delta: -1}, api.Band{Above: 600}, api.Band{Above: 900, Delta: 5}, api.Band{Above: 2000, Delta: 70}, api.Band{Above: mostFix, Delta: 1000})
}

// behind is what is carried on with a sum, and an error that was the one ahead.
func behind(sum, prev int64) api.State { return api.State{Sum: sum, Prev: prev, Has: true} }

// policies is the zero policy, and some of each kind, ordinary ones and those at the bounds.
func policies() []api.Policy {
	return []api.Policy{
		{}, {Bands: []api.Band{}, Slots: []api.Slot{}},
		tracks(1), tracks(2), tracks(600), tracks(1000), tracks(mostFix - 1), tracks(mostFix),
		steps(api.Band{}), steps(api.Band{Above: mostFix, Delta: 1}), steps(api.Band{Delta: -1000}), steps(api.Band{Delta: 1000}),
		steps(api.Band{Delta: -1}, api.Band{Above: 800, Delta: 2}), steps(api.Band{Above: 100, Delta: 1000}, api.Band{Above: 101, Delta: -1000}),
		manyBands(),
		pids(1, 0, 0, 0), pids(500, 5000, 0, 0), pids(500, 0, 1000, 0), pids(500, 0, 0, 1000), pids(500, -5000, 300, -2000), pids(1000, 1, 1, 1), pids(700, 5000, 1000, 2000),
		pids(1, mostFix, mostFix, mostFix), pids(mostFix, mostFix, mostFix, mostFix), pids(mostFix, -mostFix, -mostFix, -mostFix), pids(1, -mostFix, mostFix, -mostFix),
		scheds(1, api.Slot{}), scheds(1, api.Slot{N: 1000}), scheds(mostTime, api.Slot{N: 7}), scheds(4, api.Slot{N: 3}, api.Slot{From: 2, N: 8}),
		scheds(mostTime, api.Slot{}, api.Slot{From: 1, N: 1000}, api.Slot{From: mostTime - 1, N: 999}),
		scheds(8, api.Slot{N: 1}, api.Slot{From: 1, N: 0}, api.Slot{From: 2, N: 1000}, api.Slot{From: 3, N: 999}, api.Slot{From: 4, N: 4}, api.Slot{From: 5, N: 0}, api.Slot{From: 6, N: 500}, api.Slot{From: 7, N: 2}),
		scheds(1440, api.Slot{N: 2}, api.Slot{From: 480, N: 7}, api.Slot{From: 1200}),
	}
}

// states is some without an error ahead and some with one, of any numbers.
func states() []api.State {
	var all []api.State
	for _, n := range [][2]int64{{0, 0}, {5, 6}, {-700, 400}, {1, -1}, {mostFix, -mostFix}, {-mostFix, mostFix}, {mostFix + 1, -mostFix - 1}, {math.MaxInt64, math.MinInt64}, {math.MinInt64, math.MaxInt64}} {
		all = append(all, api.State{Sum: n[0], Prev: n[1]}, behind(n[0], n[1]))
	}
	return all
}

// replicas is the bounds, those beside each, and those far beyond.
func replicas() []int {
	return []int{math.MinInt, math.MinInt + 1, math.MinInt + 1000, -mostFix, -1001, -1000, -2, -1, 0, 1, 2, 4, 500, 998, 999, 1000, 1001, 1002, 2000, mostFix, 1 << 40, math.MaxInt - 1000, math.MaxInt - 1, math.MaxInt}
}

// loads is those at which something changes for these policies, those beside each, and those far away.
func loads() []int64 {
	return beside(math.MinInt64, -mostFix, 0, 10, 100, 300, 500, 600, 800, 1000, 2000, 5000, mostFix, mostTime, math.MaxInt64)
}

// times is those at which something changes for these policies, those beside each, and those far away.
func times() []int64 {
	return beside(math.MinInt64, -mostTime, -4, 0, 3, 6, 480, 1200, 1440, mostTime, math.MaxInt64)
}

// beside is these, and those beside each, where there are such, in order, each once.
func beside(l ...int64) []int64 {
	var all []int64
	for _, n := range l {
		if n > math.MinInt64 {
			all = append(all, n-1)
		}
		all = append(all, n)
		if n < math.MaxInt64 {
			all = append(all, n+1)
		}
	}
	slices.Sort(all)
	return slices.Compact(all)
}

// random is a number of any size, on either side.
func random(r *rand.Rand) int64 { return int64(r.Uint64()) >> r.IntN(64) }

// upTo is one from least to most, often near to one of these two, or one of them.
func upTo(r *rand.Rand, least, most int64) int64 {
	n := r.Int64N(most-least+1) >> r.IntN(20)
	if r.IntN(4) == 0 {
		return most - n
	}
	return least + n
}

// some is one of any size up to most, on either side.
func some(r *rand.Rand, most int64) int64 {
	n := upTo(r, 0, most)
	if r.IntN(2) == 0 {
		return -n
	}
	return n
}

// rising is up to eight numbers that rise, from least to most.
func rising(r *rand.Rand, least, most int64) []int64 {
	var all []int64
	for range 1 + r.IntN(8) {
		all = append(all, upTo(r, least, most))
	}
	slices.Sort(all)
	return slices.Compact(all)
}

// randomPolicy is the zero policy, or one of each kind that is right.
func randomPolicy(r *rand.Rand) api.Policy {
	switch r.IntN(9) {
	case 0:
		return api.Policy{}
	case 1, 2:
		return tracks(upTo(r, 1, mostFix))
	case 3, 4:
		var l []api.Band
		for _, n := range rising(r, 0, mostFix) {
			l = append(l, api.Band{Above: n, Delta: int(some(r, mostRep))})
		}
		return steps(l...)
	case 5, 6:
		return pids(upTo(r, 1, mostFix), some(r, mostFix), some(r, mostFix), some(r, mostFix))
	}
	period := upTo(r, 1, mostTime)
	var l []api.Slot
	for _, n := range rising(r, 0, period-1) {
		l = append(l, api.Slot{From: n, N: int(upTo(r, 0, mostRep))})
	}
	l[0].From = 0
	return scheds(period, l...)
}

func randomState(r *rand.Rand) api.State {
	return api.State{Sum: random(r), Prev: random(r), Has: r.IntN(3) > 0}
}

// randomReplicas is mostly within the bounds, or just beyond one, and now and then anywhere.
func randomReplicas(r *rand.Rand) int {
	if r.IntN(8) == 0 {
		return int(random(r))
	}
	return r.IntN(mostRep+21) - 10
}

// randomLoad is one at which something changes for this policy, or near to it, or anywhere.
func randomLoad(r *rand.Rand, p api.Policy) int64 {
	switch r.IntN(4) {
	case 0:
		return random(r)
	case 1:
		return upTo(r, 0, mostFix)
	}
	if len(p.Bands) > 0 {
		return p.Bands[r.IntN(len(p.Bands))].Above + r.Int64N(5) - 2
	}
	// Near to the target a PolTrack wants about as many as there are, and a PolPid has little to put right.
	return p.Target + some(r, max(p.Target, 0)/2+3)
}

// randomTime is one at which something changes for this policy, or near to it, or anywhere.
func randomTime(r *rand.Rand, p api.Policy) int64 {
	if len(p.Slots) == 0 || r.IntN(3) == 0 {
		return random(r)
	}
	return p.Period*(r.Int64N(9)-4) + p.Slots[r.IntN(len(p.Slots))].From + r.Int64N(5) - 2
}

// randomCall is of a policy that is right, or the zero one, and of any numbers.
func randomCall(r *rand.Rand) call {
	p := randomPolicy(r)
	return call{p, randomState(r), randomReplicas(r), randomLoad(r, p), randomTime(r, p)}
}

// randomOther is a policy of any kind, or none, and of any parts, that is mostly not right.
func randomOther(r *rand.Rand) api.Policy {
	p := api.Policy{Kind: r.IntN(7) - 1, Target: random(r), Kp: random(r), Ki: random(r), Kd: random(r), Period: random(r)}
	if r.IntN(8) == 0 {
		p.Kind = int(random(r))
	}
	for range r.IntN(12) {
		p.Bands = append(p.Bands, api.Band{Above: random(r), Delta: int(random(r))})
	}
	for range r.IntN(12) {
		p.Slots = append(p.Slots, api.Slot{From: random(r), N: int(random(r))})
	}
	return p
}
