package step_test

import (
	"math"
	"math/rand/v2"
	"slices"
	"sync"
	"testing"

	"governor/api"
	"governor/step"
)

// split asks whether all bands up to the one that is found are not above the load, and all behind it are.
func split(t *testing.T, l []api.Band, util int64) {
	at := step.Find(l, util)
	if at < -1 || at >= len(l) {
		t.Fatalf("%d is no place of %v", at, l)
	}
	for i, b := range l {
		if (i <= at) != (b.Above <= util) {
			t.Errorf("of %v, load %d the place is %d, and the band %d is on the other side of it", l, util, at, i)
		}
	}
}

// P11.2: what is found parts the bands, of all lengths, at every load at which something changes.
func TestASearch(t *testing.T) {
	for _, l := range lists() {
		mayBe(t, l)
		for _, util := range loads(l) {
			split(t, l, util)
		}
	}
}

// P11.2: so it is with many at random.
func TestASearchAtRandom(t *testing.T) {
	r := rand.New(rand.NewPCG(11, 2))
	for range 200000 {
		l := randomBands(r)
		mayBe(t, l)
		split(t, l, randomLoad(r, l))
	}
}

// neverFewer asks, of loads in order, whether a later one never wants fewer.
func neverFewer(t *testing.T, l []api.Band, cur int, utils []int64) {
	for i := 1; i < len(utils); i++ {
		less, more := step.Want(l, cur, utils[i-1]), step.Want(l, cur, utils[i])
		if less > more {
			t.Errorf("%d are wanted %s, and only %d at load %d", less, quoted(l, cur, utils[i-1]), more, utils[i])
		}
	}
}

// foundAt is those of these loads, in order, at which a band is found.
func foundAt(l []api.Band, utils []int64) []int64 {
	return slices.DeleteFunc(slices.Clone(utils), func(n int64) bool { return step.Find(l, n) < 0 })
}

// rising lays the deltas in order on bands.
func rising(l []api.Band, all []int) {
	slices.Sort(all)
	for i := range l {
		l[i].Delta = all[i]
	}
}

// P11.3: where deltas rise, too, more load wants no fewer, from the load on at which a band is found; where the first Delta is not below 0, from all loads on.
func TestByDeltas(t *testing.T) {
	for _, l := range lists() {
		for _, all := range [][]int{
			{0, 1, 2, 3, 4, 5, 6, 7}, {1, 10, 100, 200, 400, 600, 900, 1000}, {993, 994, 995, 996, 997, 998, 999, 1000}, {0, 0, 1, 1, 2, 2, 1000, 1000}, {0, 0, 0, 0, 0, 0, 0, 0},
			{-4, -3, -2, -1, 0, 1, 2, 3}, {-1000, -999, -500, -1, 1, 500, 999, 1000}, {-8, -7, -6, -5, -4, -3, -2, -1}, {-1000, -999, -998, -997, -996, -995, -994, -993},
		} {
			rising(l, all)
			mayBe(t, l)
			for _, cur := range replicas() {
				neverFewer(t, l, cur, foundAt(l, loads(l)))
				if all[0] >= 0 {
					neverFewer(t, l, cur, loads(l))
				}
			}
		}
	}
}

// P11.3: so it is with many at random, and with one more load at a time.
func TestByDeltasAtRandom(t *testing.T) {
	r := rand.New(rand.NewPCG(11, 3))
	for range 5000 {
		l := randomBands(r)
		var all []int
		for range l {
			all = append(all, randomDelta(r))
		}
		rising(l, all)
		mayBe(t, l)
		utils := loads(l)
		for range 30 {
			utils = append(utils, randomLoad(r, l))
		}
		slices.Sort(utils)
		cur := randomReplicas(r)
		neverFewer(t, l, cur, foundAt(l, utils))
		if len(l) == 0 || l[0].Delta >= 0 {
			neverFewer(t, l, cur, utils)
		}
	}
	var each []int64
	for n := int64(-3); n < 90; n++ {
		each = append(each, n)
	}
	for _, cur := range replicas() {
		neverFewer(t, deltas(0, 1, 3, 10, 30, 100, 300, 1000), cur, each)
		neverFewer(t, deltas(-1000, -300, -100, -1, 0, 1, 2, 1000), cur, each[3:])
	}
}

// P11.1, P11.3: below the first band K1's words hold, by which there is no Delta: so a first one below 0 wants fewer from its load on than ahead of it.
func TestBelowAFirstThatShrinks(t *testing.T) {
	l := []api.Band{{Above: 100, Delta: -3}, {Above: 200, Delta: 5}}
	mayBe(t, l)
	for _, c := range []struct {
		util int64
		want int
	}{{math.MinInt64, 7}, {-1, 7}, {0, 7}, {99, 7}, {100, 4}, {199, 4}, {200, 12}} {
		wantWant(t, l, 7, c.util, c.want)
	}
}

// P11.1: more replicas want no fewer, and there are never fewer than none, nor more than MaxReplicas.
func TestByReplicas(t *testing.T) {
	r := rand.New(rand.NewPCG(11, 4))
	for range 5000 {
		l := randomBands(r)
		util := randomLoad(r, l)
		ahead := 0
		for _, cur := range replicas() {
			got := step.Want(l, cur, util)
			if got < ahead || got > mostRep {
				t.Errorf("%d are wanted %s, behind %d", got, quoted(l, cur, util), ahead)
			}
			ahead = got
		}
	}
}

// P3: what is handed in is not changed, nor its spare room.
func TestNothingIsChanged(t *testing.T) {
	r := rand.New(rand.NewPCG(11, 5))
	for range 2000 {
		l := randomBands(r)
		whole := slices.Concat(l, []api.Band{{Above: -5, Delta: 7}, {Above: 3, Delta: -2000}})
		was := slices.Clone(whole)
		l = whole[:len(l)]
		for _, util := range loads(l) {
			step.Find(l, util)
			for _, cur := range []int{-1, 0, 4, 1000, math.MaxInt} {
				step.Want(l, cur, util)
			}
		}
		if !slices.Equal(whole, was) {
			t.Fatal("bands were", was, "and are", whole)
		}
	}
}

// P3: what is answered hangs on the bands, and neither on what stands in their spare room nor on the calls ahead.
func TestOnItsArgumentsAlone(t *testing.T) {
	r := rand.New(rand.NewPCG(11, 6))
	for range 20000 {
		l := randomBands(r)
		util, cur := randomLoad(r, l), randomReplicas(r)
		at, n := step.Find(l, util), step.Want(l, cur, util)
		roomy := slices.Concat(l, []api.Band{{Above: math.MinInt64, Delta: 900}, {Above: util, Delta: -900}})[:len(l)]
		step.Want(roomy, 3, -util)
		wantFind(t, roomy, util, at)
		wantWant(t, roomy, cur, util, n)
		wantFind(t, slices.Clip(slices.Clone(l)), util, at)
		wantWant(t, l, cur, util, n)
	}
}

// P3: so it is where many ask at a time.
func TestManyAtATime(t *testing.T) {
	l := from(0, 1, 5, 100, 800, 5000, mostFix-1, mostFix)
	var group sync.WaitGroup
	for range 8 {
		group.Go(func() {
			for _, util := range loads(l) {
				for _, cur := range replicas() {
					asSaid(t, l, cur, util)
				}
			}
		})
	}
	group.Wait()
}
