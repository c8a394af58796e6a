package step_test

import (
	"math"
	"math/bits"
	"math/rand/v2"
	"testing"

	"governor/api"
	"governor/step"
)

// P11.1: every place that a band can be found at, in every list of up to 8 bands at the loads 0 to 11, and in the same list drawn out up to MaxFix, held against the words.
func TestEveryPlace(t *testing.T) {
	const line = 12
	out := [line]int64{0, 1, 2, 99, 100, 800, 5000, 1000000, mostFix / 2, mostFix - 2, mostFix - 1, mostFix}
	seen := map[[2]int]bool{}
	for set := range 1 << line {
		if bits.OnesCount(uint(set)) > mostBands {
			continue
		}
		var near, far []int64
		for i := range line {
			if set>>i&1 == 1 {
				near, far = append(near, int64(i)), append(far, out[i])
			}
		}
		l := from(near...)
		mayBe(t, l)
		for util := int64(-2); util < line+2; util++ {
			asSaid(t, l, 500, util)
			seen[[2]int{len(l), step.Find(l, util)}] = true
		}
		l = from(far...)
		mayBe(t, l)
		for _, util := range loads(l) {
			asSaid(t, l, 500, util)
		}
	}
	// Of n bands there are n places, and none.
	if want := 9 + 8*9/2; len(seen) != want {
		t.Error("of the places only", len(seen), "were found, not", want)
	}
}

// P11.1: bands of all lengths, loads at each and beside it, and far away, and replicas at the bounds and beyond them, held against the words.
func TestLoadsAndReplicas(t *testing.T) {
	for _, l := range lists() {
		for _, delta := range []int{-1000, -999, -501, -500, -2, -1, 0, 1, 2, 500, 501, 999, 1000} {
			for i := range l {
				l[i].Delta = delta
				if i%2 == 1 {
					l[i].Delta = -delta / 2
				}
			}
			mayBe(t, l)
			for _, util := range loads(l) {
				for _, cur := range replicas() {
					asSaid(t, l, cur, util)
				}
			}
		}
	}
}

// P11.1: every Delta that may be, of every number of replicas that there may be.
func TestEveryDelta(t *testing.T) {
	for delta := -mostRep; delta <= mostRep; delta++ {
		l := deltas(delta)
		mayBe(t, l)
		for cur := range mostRep + 1 {
			wantWant(t, l, cur, 3, max(0, min(cur+delta, mostRep)))
			if cur%100 == 0 {
				asSaid(t, l, cur, 3)
			}
		}
	}
}

// P11.1: many at random, of all lengths.
func TestManyAtRandom(t *testing.T) {
	r := rand.New(rand.NewPCG(11, 1))
	lengths, places := map[int]bool{}, map[int]bool{}
	for range 200000 {
		l := randomBands(r)
		mayBe(t, l)
		util, cur := randomLoad(r, l), randomReplicas(r)
		asSaid(t, l, cur, util)
		lengths[len(l)], places[step.Find(l, util)] = true, true
	}
	if len(lengths) != mostBands+1 || len(places) != mostBands+1 {
		t.Error("there were", len(lengths), "lengths and", len(places), "places")
	}
}

// P1, K1: of bands with a Delta that may not be a policy's nothing is promised but that the call ends; it is laid on as the words say, all the same, and is not summed beyond an int.
func TestDeltasOfAnySize(t *testing.T) {
	all := []int{math.MinInt, math.MinInt + 1, -1 << 62, -2001, -2000, -1001, 1001, 2000, 2001, 1 << 62, math.MaxInt - 1000, math.MaxInt - 1, math.MaxInt}
	for _, delta := range all {
		for _, cur := range replicas() {
			asSaid(t, deltas(delta), cur, 5)
			asSaid(t, []api.Band{{Above: math.MinInt64, Delta: delta}, {Above: math.MaxInt64, Delta: -1}}, cur, 5)
		}
	}
}
