package policy_test

import (
	"math"
	"math/rand/v2"
	"slices"
	"sync"
	"testing"

	"governor/api"
	"governor/pid"
	"governor/policy"
)

// bounded asks whether so many may be wanted, and tells what is carried on.
func bounded(t *testing.T, c call) api.State {
	next, n := c.next()
	if n < 0 || n > mostRep {
		t.Helper()
		t.Errorf("%v wants %d", c, n)
	}
	return next
}

// P14.2: never fewer than none, nor more than MaxReplicas, are wanted, of each policy and any numbers.
func TestBounds(t *testing.T) {
	for _, p := range policies() {
		mayBe(t, p)
		for _, cur := range replicas() {
			for _, s := range states() {
				for _, n := range []int64{math.MinInt64, -mostTime, -mostFix, -1, 0, 1, 900, mostFix, mostTime, math.MaxInt64} {
					bounded(t, call{p, s, cur, n, n})
					bounded(t, call{p, s, cur, n, -n - 1})
				}
			}
		}
	}
}

// P14.2: so it is with many at random, and with rows of them.
func TestBoundsAtRandom(t *testing.T) {
	r := rand.New(rand.NewPCG(14, 5))
	for range 200000 {
		c := randomCall(r)
		mayBe(t, c.p)
		bounded(t, c)
	}
	for range 2000 {
		c := randomCall(r)
		for range 50 {
			c.s = bounded(t, c)
			c.cur, c.util, c.t = randomReplicas(r), random(r), random(r)
		}
	}
}

// carried asks whether only a PolPid carries something on, which is what pid says, while all others carry on what came.
func carried(t *testing.T, c call) api.State {
	want := c.s
	if c.p.Kind == api.PolPid {
		want, _ = pid.Next(c.p, c.s, c.util)
	}
	next, _ := c.next()
	if next != want || c.p.Kind == api.PolPid && !next.Has {
		t.Helper()
		t.Errorf("%v carries on %+v, not %+v", c, next, want)
	}
	return next
}

// P14.3: only a PolPid carries something on, of states without an error ahead and with one, of any numbers.
func TestCarriedOn(t *testing.T) {
	for _, p := range policies() {
		mayBe(t, p)
		for _, s := range states() {
			for _, cur := range replicas() {
				for _, n := range []int64{math.MinInt64, -mostTime, -mostFix, -1, 0, 1, 900, mostFix, mostTime, math.MaxInt64} {
					carried(t, call{p, s, cur, n, n})
					carried(t, call{p, s, cur, n, -n - 1})
				}
			}
		}
	}
}

// P14.3: so it is with many at random, and with rows of them, whose state a kind that carries nothing on leaves as it was ahead of them all.
func TestCarriedOnAtRandom(t *testing.T) {
	r := rand.New(rand.NewPCG(14, 6))
	for range 200000 {
		c := randomCall(r)
		mayBe(t, c.p)
		carried(t, c)
	}
	for range 2000 {
		c := randomCall(r)
		first := c.s
		for range 50 {
			c.s = carried(t, c)
			c.cur, c.util, c.t = randomReplicas(r), randomLoad(r, c.p), randomTime(r, c.p)
		}
		if c.p.Kind != api.PolPid && c.s != first {
			t.Errorf("%+v made %+v of %+v", c.p, c.s, first)
		}
	}
}

// P14.3: what is carried on alters nothing of what the kinds but PolPid want.
func TestWantedWithoutWhatIsCarriedOn(t *testing.T) {
	r := rand.New(rand.NewPCG(14, 7))
	for range 50000 {
		c := randomCall(r)
		if c.p.Kind == api.PolPid {
			continue
		}
		_, want := c.next()
		for _, s := range []api.State{{}, behind(0, 0), randomState(r)} {
			c.s = s
			wantNext(t, c, s, want)
		}
	}
}

// P14.1: a load, a time and a number of replicas that a kind does not look at alter nothing.
func TestNotLookedAt(t *testing.T) {
	r := rand.New(rand.NewPCG(14, 8))
	far := append(beside(math.MinInt64, 0, 900, mostFix, mostTime, math.MaxInt64), -mostTime, -9)
	for _, p := range append(policies(), randomPolicies(r, 500)...) {
		mayBe(t, p)
		c := call{p, randomState(r), randomReplicas(r), randomLoad(r, p), randomTime(r, p)}
		next, want := c.next()
		for _, n := range far {
			other := c
			if p.Kind != api.PolSched {
				other.t = n
			}
			if p.Kind == api.PolSched || p.Kind == 0 {
				other.util = n
			}
			if p.Kind == api.PolSched {
				other.cur = int(n)
			}
			wantNext(t, other, next, want)
		}
	}
}

func randomPolicies(r *rand.Rand, many int) []api.Policy {
	var l []api.Policy
	for range many {
		l = append(l, randomPolicy(r))
	}
	return l
}

// P14.1: what a PolPid carries on does not hang on how many there are.
func TestCarriedOnWithoutReplicas(t *testing.T) {
	r := rand.New(rand.NewPCG(14, 9))
	for range 20000 {
		c := randomCall(r)
		next, _ := c.next()
		for _, cur := range []int{math.MinInt, 0, 1000, math.MaxInt, randomReplicas(r)} {
			c.cur = cur
			if other, _ := c.next(); other != next {
				t.Errorf("%v carries on %+v, and of others %+v", c, other, next)
			}
		}
	}
}

// P3: what is handed in is not changed, nor its spare room, by policies that may be and by others.
func TestNothingIsChanged(t *testing.T) {
	r := rand.New(rand.NewPCG(14, 10))
	for range 20000 {
		p := randomPolicy(r)
		if r.IntN(3) == 0 {
			p = randomOther(r)
		}
		bands := slices.Concat(p.Bands, []api.Band{{Above: -5, Delta: 7}, {Above: 3, Delta: -2000}})
		slots := slices.Concat(p.Slots, []api.Slot{{From: -5, N: 7}, {From: 3, N: -2000}})
		wasBands, wasSlots := slices.Clone(bands), slices.Clone(slots)
		p.Bands, p.Slots = bands[:len(p.Bands)], slots[:len(p.Slots)]
		policy.Zero(p)
		call{p, randomState(r), randomReplicas(r), randomLoad(r, p), randomTime(r, p)}.next()
		if !slices.Equal(bands, wasBands) || !slices.Equal(slots, wasSlots) {
			t.Fatal("bands were", wasBands, "and are", bands, "and slots were", wasSlots, "and are", slots)
		}
	}
}

// P3: what is answered hangs on the arguments, and neither on what stands in their spare room nor on the calls ahead.
func TestOnItsArgumentsAlone(t *testing.T) {
	r := rand.New(rand.NewPCG(14, 11))
	for range 30000 {
		c := randomCall(r)
		next, want := c.next()
		randomCall(r).next()
		wantNext(t, c, next, want)
		c.p.Bands = slices.Concat(c.p.Bands, []api.Band{{Above: mostFix, Delta: 900}})[:len(c.p.Bands)]
		c.p.Slots = slices.Concat(c.p.Slots, []api.Slot{{From: mostTime, N: 901}})[:len(c.p.Slots)]
		wantNext(t, c, next, want)
	}
}

// P3: so it is where many ask at a time.
func TestManyAtATime(t *testing.T) {
	var group sync.WaitGroup
	for i := range 8 {
		group.Go(func() {
			r := rand.New(rand.NewPCG(14, uint64(100+i)))
			for range 10000 {
				asSaid(t, randomCall(r))
			}
		})
	}
	group.Wait()
}
