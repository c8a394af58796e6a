package step_test

import (
	"fmt"
	"math"
	"math/big"
	"math/rand/v2"
	"slices"
	"testing"

	"governor/api"
	"governor/event"
	"governor/step"
)

const (
	mostFix   = 1000000000
	mostRep   = 1000
	mostBands = 8
)

// saysFind is K1's Find by the chapter's words: all bands are gone through, one by one.
func saysFind(l []api.Band, util int64) int {
	last := -1
	for i, b := range l {
		if b.Above <= util {
			last = i
		}
	}
	return last
}

// saysWant is K1's Want by the chapter's words, with numbers that have room enough.
func saysWant(l []api.Band, cur int, util int64) int {
	n := nearest(big.NewInt(int64(cur)))
	if at := saysFind(l, util); at >= 0 {
		n.Add(n, big.NewInt(int64(l[at].Delta)))
	}
	return int(nearest(n).Int64())
}

// nearest is n, or the bound of replicas that is nearer, if it is beyond one.
func nearest(n *big.Int) *big.Int {
	if n.Sign() < 0 {
		return big.NewInt(0)
	}
	if n.Cmp(big.NewInt(mostRep)) > 0 {
		return big.NewInt(mostRep)
	}
	return n
}

func wantFind(t *testing.T, l []api.Band, util int64, want int) {
	if got := step.Find(l, util); got != want {
		t.Helper()
		t.Errorf("Find of %v, load %d is %d, not %d", l, util, got, want)
	}
}

func wantWant(t *testing.T, l []api.Band, cur int, util int64, want int) {
	if got := step.Want(l, cur, util); got != want {
		t.Helper()
		t.Errorf("Want of %v, %d replicas, load %d is %d, not %d", l, cur, util, got, want)
	}
}

// asSaid asks for both calls what the words say.
func asSaid(t *testing.T, l []api.Band, cur int, util int64) {
	t.Helper()
	wantFind(t, l, util, saysFind(l, util))
	wantWant(t, l, cur, util, saysWant(l, cur, util))
}

// mayBe asks whether bands are none, or as a policy's may be, so that no test asks for the answers of others unawares.
func mayBe(t *testing.T, l []api.Band) {
	if len(l) > 0 && !event.Policy(api.Policy{Kind: api.PolStep, Bands: l}) {
		t.Helper()
		t.Fatalf("no policy may have the bands %v", l)
	}
}

// from is a band for each of these, in their order, each with a delta of its own that is not 0.
func from(above ...int64) []api.Band {
	var l []api.Band
	for i, n := range above {
		l = append(l, api.Band{Above: n, Delta: i + 1})
	}
	return l
}

// deltas is a band for each of these, in their order, at the loads 0, 10, 20 and so on.
func deltas(all ...int) []api.Band {
	var l []api.Band
	for i, n := range all {
		l = append(l, api.Band{Above: int64(10 * i), Delta: n})
	}
	return l
}

// beside is these, and those beside each, where there are such.
func beside(l ...int64) []int64 {
	var all []int64
	for _, n := range l {
		if n > math.MinInt64 {
			all = append(all, n-1)
		}
		all = append(all, n)
		if n < math.MaxInt64 {
			all = append(all, n+1)
		}
	}
	slices.Sort(all)
	return slices.Compact(all)
}

// loads is those at each band and beside it, and those far away from all, in order.
func loads(l []api.Band) []int64 {
	at := []int64{math.MinInt64, -1 << 40, -mostFix, 0, mostFix, 1 << 40, 1 << 62, math.MaxInt64}
	for _, b := range l {
		at = append(at, b.Above)
	}
	return beside(at...)
}

// replicas is the bounds, those beside each, and those far beyond, in order.
func replicas() []int {
	return []int{math.MinInt, math.MinInt + 1, -mostFix, -1001, -1000, -999, -2, -1, 0, 1, 2, 499, 500, 501, 998, 999, 1000, 1001, 1002, 2000, 1 << 40, math.MaxInt - 1000, math.MaxInt - 1, math.MaxInt}
}

// lists is bands as a policy's may be, of all lengths, and none.
func lists() [][]api.Band {
	return [][]api.Band{
		nil, {},
		from(0), from(1), from(800), from(mostFix - 1), from(mostFix),
		from(0, 1), from(0, 2), from(0, mostFix), from(mostFix-1, mostFix), from(100, 800),
		from(100, 800, 5000), from(5, 6, 7, 8), from(0, 10, 100, 1000, 10000), from(1, 2, 4, 8, 16, 32), from(1, 3, 5, 7, 9, 11, 13),
		from(0, 1, 2, 3, 4, 5, 6, 7), from(7, 70, 700, 7000, 70000, 700000, 7000000, 70000000),
		from(mostFix-7, mostFix-6, mostFix-5, mostFix-4, mostFix-3, mostFix-2, mostFix-1, mostFix),
	}
}

// random is a number of any size, above 0 and below it.
func random(r *rand.Rand) int64 { return int64(r.Uint64()) >> r.IntN(64) }

// randomBands is bands as a policy's may be, of any length, close to each other or far away.
func randomBands(r *rand.Rand) []api.Band {
	most := int64(2+mostBands) << r.IntN(27)
	first := r.Int64N(mostFix - min(most, mostFix) + 1)
	var above []int64
	for range r.IntN(mostBands + 1) {
		above = append(above, min(first+r.Int64N(most), mostFix))
	}
	slices.Sort(above)
	l := from(slices.Compact(above)...)
	for i := range l {
		l[i].Delta = randomDelta(r)
	}
	return l
}

// randomDelta is one of any size that may be, often one that is small, or a bound.
func randomDelta(r *rand.Rand) int {
	switch r.IntN(4) {
	case 0:
		return r.IntN(9) - 4
	case 1:
		return []int{-1000, -999, 999, 1000}[r.IntN(4)]
	}
	return r.IntN(2*mostRep+1) - mostRep
}

// randomLoad is at a band, or near to it, or anywhere.
func randomLoad(r *rand.Rand, l []api.Band) int64 {
	if len(l) == 0 || r.IntN(4) == 0 {
		return random(r)
	}
	return l[r.IntN(len(l))].Above + r.Int64N(5) - 2
}

// randomReplicas is mostly within the bounds, or just beyond one, and now and then anywhere.
func randomReplicas(r *rand.Rand) int {
	if r.IntN(8) == 0 {
		return int(random(r))
	}
	return r.IntN(mostRep+21) - 10
}

// quoted is a call as a failure tells it.
func quoted(l []api.Band, cur int, util int64) string {
	return fmt.Sprintf("of %v, %d replicas, load %d", l, cur, util)
}
