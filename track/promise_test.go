package track_test

import (
	"math"
	"math/rand/v2"
	"slices"
	"sync"
	"testing"

	"governor/track"
)

// someNumbers is the edges, and many at random, in order.
func someNumbers(seed uint64, many int) []int64 {
	l := edges()
	r := rand.New(rand.NewPCG(10, seed))
	for range many {
		l = append(l, random(r))
	}
	slices.Sort(l)
	return slices.Compact(l)
}

// neverFalls asks, of numbers in order, whether what is wanted for a later one is never less.
func neverFalls(t *testing.T, what string, l []int64, wanted func(n int64) int) {
	for i := 1; i < len(l); i++ {
		if less, more := wanted(l[i-1]), wanted(l[i]); less > more {
			t.Error(what, l[i-1], "wants", less, "and", l[i], "wants", more)
		}
	}
}

// P10.2: more load wants no fewer, more replicas want no fewer, and a greater target wants no more.
func TestItGoesWithTheLoad(t *testing.T) {
	l := someNumbers(11, 30)
	for _, a := range l {
		for _, b := range l {
			neverFalls(t, "the load", l, func(n int64) int { return track.Want(a, int(b), n) })
			neverFalls(t, "replicas", l, func(n int64) int { return track.Want(a, int(n), b) })
			neverFalls(t, "less the target", l, func(n int64) int { return -track.Want(n, int(a), b) })
		}
	}
}

// P10.2: so it is with one more at a time, all the way.
func TestOneMoreAtATime(t *testing.T) {
	var all []int64
	for n := int64(-3); n <= 2500; n++ {
		all = append(all, n)
	}
	for _, a := range []int64{1, 2, 3, 7, 60, 333, 600, 999, 1000, 1001, 2000, 1000000} {
		for _, b := range []int64{1, 2, 3, 7, 60, 333, 600, 999, 1000, 1001, 1000000, mostFix} {
			neverFalls(t, "the load", all, func(n int64) int { return track.Want(a, int(b), n) })
			neverFalls(t, "replicas", all, func(n int64) int { return track.Want(a, int(n), b) })
			neverFalls(t, "less the target", all, func(n int64) int { return -track.Want(n, int(a), b) })
		}
	}
}

// resting is targets, and some at random, of which so many replicas have together a load that is not beyond MaxFix.
func resting(r *rand.Rand, cur int) []int64 {
	most := int64(mostFix) / int64(max(cur, 1))
	l := []int64{1, 2, 3, 499, 500, 501, 600, 998, 999, 1000, 1001, 1002, 9999, 10001, 999999, 1000000, most / 2, most - 1, most}
	for range 40 {
		l = append(l, 1+random(r)&(1<<30-1))
	}
	return slices.DeleteFunc(l, func(n int64) bool { return n < 1 || n > most })
}

// P10.3: at the load that is to be as many are wanted as there are.
func TestAtRest(t *testing.T) {
	r := rand.New(rand.NewPCG(10, 12))
	for cur := 0; cur <= mostRep; cur++ {
		for _, target := range resting(r, cur) {
			want(t, target, cur, target, cur)
		}
	}
}

// P10.3: so it is where the target, the replicas or the load are taken into their bounds.
func TestAtRestInTheBounds(t *testing.T) {
	for _, target := range []int64{0, -1, math.MinInt64} {
		want(t, target, 7, 1, 7)
		want(t, target, 1000, 1, 1000)
	}
	for _, target := range []int64{mostFix, mostFix + 1, math.MaxInt64} {
		want(t, target, 1, target, 1)
		want(t, target, 0, target, 0)
	}
	for _, target := range []int64{1, 600, 1000, 1000000} {
		want(t, target, 1001, target, 1000)
		want(t, target, math.MaxInt, target, 1000)
		want(t, target, -1, target, 0)
		want(t, target, math.MinInt, target, 0)
	}
}

// P10.1, P10.3: where all loads together are beyond MaxFix, J1's words hold, by which they are MaxFix: fewer may be wanted then, but never more.
func TestBeyondRest(t *testing.T) {
	r := rand.New(rand.NewPCG(10, 13))
	for range 50000 {
		cur := 2 + r.IntN(mostRep-1)
		target := mostFix/int64(cur) + 1 + r.Int64N(mostFix-mostFix/int64(cur))
		want(t, target, cur, target, says(target, cur, target))
		if got := track.Want(target, cur, target); got > cur || got < 1 {
			t.Error(told(got, cur, target, cur, target))
		}
	}
}

// P10.2, P10.3: just below the load that is to be no more are wanted than there are, and just above it no fewer, and one more, where that is not cut off.
func TestBesideRest(t *testing.T) {
	r := rand.New(rand.NewPCG(10, 14))
	for cur := 1; cur < mostRep; cur++ {
		for _, target := range resting(r, cur) {
			if got := track.Want(target, cur, target-1); got > cur || int64(got) < int64(cur)-int64(cur)/target-1 {
				t.Error(told(got, cur, target, cur, target-1))
			}
			if int64(cur)*(target+1) > mostFix {
				continue
			}
			more := 0
			if whole*int64(cur) >= target {
				more = int((whole*int64(cur)/target + whole - 1) / whole)
			}
			want(t, target, cur, target+1, min(cur+more, mostRep))
		}
	}
}

// P10.2, P10.3: half the load wants half as many, and one more for what is left of that; twice the load twice as many, up to MaxReplicas.
func TestHalfAndTwice(t *testing.T) {
	r := rand.New(rand.NewPCG(10, 15))
	for cur := 0; cur <= mostRep; cur++ {
		for _, target := range resting(r, cur) {
			half := target / 2
			if half > 0 && int64(cur)*2*half <= mostFix {
				want(t, 2*half, cur, half, (cur+1)/2)
			}
			if int64(cur)*2*target <= mostFix {
				want(t, target, cur, 2*target, min(2*cur, mostRep))
			}
		}
	}
}

// There are never fewer than none, nor more than MaxReplicas, whatever is asked.
func TestWithinBounds(t *testing.T) {
	l := someNumbers(16, 40)
	for _, target := range l {
		for _, cur := range l {
			for _, util := range l {
				if got := track.Want(target, int(cur), util); got < 0 || got > mostRep {
					t.Error(told(got, mostRep, target, int(cur), util))
				}
			}
		}
	}
}

// P3: what is answered hangs on the arguments alone, also where many ask at a time.
func TestManyAtATime(t *testing.T) {
	l := edges()
	var group sync.WaitGroup
	for range 8 {
		group.Go(func() {
			for _, a := range l {
				for _, b := range l {
					if track.Want(a, 7, b) != track.Want(a, 7, b) || track.Want(600, int(a), b) != track.Want(600, int(a), b) {
						t.Error("Want of", a, b, "is another one the second time")
					}
				}
			}
		})
	}
	group.Wait()
}
