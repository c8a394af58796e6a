package step_test

import (
	"math"
	"testing"

	"governor/api"
	"governor/step"
)

// P11.1, K1: the chapter's example, and the same bands at other loads.
func TestExample(t *testing.T) {
	l := []api.Band{{Above: 0, Delta: -1}, {Above: 800, Delta: 2}}
	mayBe(t, l)
	for _, c := range []struct {
		util int64
		at   int
		want int
	}{{900, 1, 6}, {801, 1, 6}, {800, 1, 6}, {799, 0, 3}, {1, 0, 3}, {0, 0, 3}, {-1, -1, 4}} {
		wantFind(t, l, c.util, c.at)
		wantWant(t, l, 4, c.util, c.want)
	}
}

// P11.1, K1: where there are no bands none is found, and as many are wanted as there are, taken into their bounds.
func TestNoBands(t *testing.T) {
	spare := from(0, 800, 5000)
	for _, l := range [][]api.Band{nil, {}, spare[:0], spare[1:1], spare[3:]} {
		for _, util := range loads(spare) {
			wantFind(t, l, util, -1)
			for _, c := range []struct{ cur, want int }{
				{math.MinInt, 0}, {-7, 0}, {-1, 0}, {0, 0}, {1, 1}, {4, 4}, {999, 999}, {1000, 1000}, {1001, 1000}, {5000, 1000}, {math.MaxInt, 1000},
			} {
				wantWant(t, l, c.cur, util, c.want)
			}
		}
	}
}

// P11.1, K1: of one band that is found, at the load that is its Above and at all beyond it.
func TestOneBand(t *testing.T) {
	for _, above := range []int64{0, 1, 2, 799, 800, 1000000, mostFix - 1, mostFix} {
		l := []api.Band{{Above: above, Delta: -3}}
		mayBe(t, l)
		for _, util := range []int64{math.MinInt64, math.MinInt64 + 1, -mostFix, above - 2, above - 1} {
			wantFind(t, l, util, -1)
			wantWant(t, l, 10, util, 10)
		}
		for _, util := range []int64{above, above + 1, above + 2, 2 * mostFix, 1 << 62, math.MaxInt64 - 1, math.MaxInt64} {
			wantFind(t, l, util, 0)
			wantWant(t, l, 10, util, 7)
		}
	}
}

// P11.1, K1: two bands, one beside the other, and far away from it.
func TestTwoBands(t *testing.T) {
	for _, c := range []struct{ low, high int64 }{{0, 1}, {0, 2}, {1, 2}, {0, mostFix}, {100, 800}, {mostFix - 2, mostFix}, {mostFix - 1, mostFix}} {
		l := []api.Band{{Above: c.low, Delta: 5}, {Above: c.high, Delta: -2}}
		mayBe(t, l)
		for _, util := range []int64{math.MinInt64, c.low - 2, c.low - 1} {
			wantFind(t, l, util, -1)
			wantWant(t, l, 10, util, 10)
		}
		for _, util := range []int64{c.low, (c.low + c.high) / 2, c.high - 1} {
			wantFind(t, l, util, 0)
			wantWant(t, l, 10, util, 15)
		}
		for _, util := range []int64{c.high, c.high + 1, math.MaxInt64} {
			wantFind(t, l, util, 1)
			wantWant(t, l, 10, util, 8)
		}
	}
}

// P11.1, K1: as many bands as a policy may have; each is found just at its Above, one beyond it, and just ahead of the next one, and the one ahead of it one below.
func TestAsManyAsMayBe(t *testing.T) {
	l := from(0, 1, 3, 800, 801, 5000, mostFix-1, mostFix)
	for i, n := range []int{-1000, 7, 0, -8, 1, 990, 1000, -1} {
		l[i].Delta = n
	}
	mayBe(t, l)
	if len(l) != mostBands {
		t.Fatal("there are", len(l), "bands")
	}
	wants := []int{0, 17, 10, 2, 11, 1000, 1000, 9}
	for i, b := range l {
		wantFind(t, l, b.Above, i)
		wantWant(t, l, 10, b.Above, wants[i])
		next := int64(math.MaxInt64)
		if i < len(l)-1 {
			next = l[i+1].Above - 1
		}
		wantFind(t, l, min(b.Above+1, next), i)
		wantWant(t, l, 10, min(b.Above+1, next), wants[i])
		wantFind(t, l, next, i)
		wantWant(t, l, 10, next, wants[i])
		wantFind(t, l, b.Above-1, i-1)
		ahead := 10
		if i > 0 {
			ahead = wants[i-1]
		}
		wantWant(t, l, 10, b.Above-1, ahead)
	}
}

// P11.1, K1: loads far below the first band find none, and those far above the last find that.
func TestLoadsFarAway(t *testing.T) {
	for _, l := range lists() {
		mayBe(t, l)
		for _, util := range []int64{math.MinInt64, math.MinInt64 + 1, math.MinInt64 + 2, -1 << 62, -1 << 40, -mostFix - 1, -mostFix, -2, -1} {
			wantFind(t, l, util, -1)
			wantWant(t, l, 600, util, 600)
		}
		for _, util := range []int64{mostFix, mostFix + 1, 1 << 40, 1 << 62, math.MaxInt64 - 2, math.MaxInt64 - 1, math.MaxInt64} {
			wantFind(t, l, util, len(l)-1)
			wantWant(t, l, 600, util, 600+len(l))
		}
	}
}

// P11.1, K1: at a load of 0 a band is found only where one begins there.
func TestLoadOfNothing(t *testing.T) {
	wantFind(t, from(0, 1), 0, 0)
	wantFind(t, from(0), 0, 0)
	wantFind(t, from(1), 0, -1)
	wantFind(t, from(1, 2, 3, 4, 5, 6, 7, 8), 0, -1)
	wantWant(t, from(0, 1), 5, 0, 6)
	wantWant(t, from(1, 2), 5, 0, 5)
}

// P11.1, K1: replicas are taken into their bounds ahead of the Delta, from wherever they are.
func TestReplicasBeyond(t *testing.T) {
	for _, c := range []struct{ delta, none, most int }{
		{0, 0, 1000}, {1, 1, 1000}, {2, 2, 1000}, {-1, 0, 999}, {-2, 0, 998}, {500, 500, 1000}, {-500, 0, 500}, {999, 999, 1000}, {-999, 0, 1}, {1000, 1000, 1000}, {-1000, 0, 0},
	} {
		l := deltas(c.delta)
		mayBe(t, l)
		for _, cur := range []int{0, -1, -2, -7, -1000, -1001, -mostFix, -1 << 62, math.MinInt + 1, math.MinInt} {
			wantWant(t, l, cur, 5, c.none)
		}
		for _, cur := range []int{1000, 1001, 1002, 2000, 5000, mostFix, math.MaxInt32 + 1, 1 << 62, math.MaxInt - 1000, math.MaxInt - 1, math.MaxInt} {
			wantWant(t, l, cur, 5, c.most)
		}
	}
}

// P11.1, K1: replicas at their bounds, and one within, with a Delta to each side.
func TestReplicasAtTheBounds(t *testing.T) {
	l := deltas(-1, 0, 1)
	mayBe(t, l)
	for _, c := range []struct{ cur, fewer, same, more int }{
		{-1, 0, 0, 1}, {0, 0, 0, 1}, {1, 0, 1, 2}, {2, 1, 2, 3}, {998, 997, 998, 999}, {999, 998, 999, 1000}, {1000, 999, 1000, 1000}, {1001, 999, 1000, 1000},
	} {
		wantWant(t, l, c.cur, 5, c.fewer)
		wantWant(t, l, c.cur, 15, c.same)
		wantWant(t, l, c.cur, 25, c.more)
	}
}

// P11.1, K1: deltas that come just to a bound, one short of it, and one beyond it.
func TestDeltasToTheBounds(t *testing.T) {
	for _, cur := range []int{0, 1, 2, 10, 499, 500, 501, 990, 998, 999, 1000} {
		for _, c := range []struct{ delta, want int }{
			{-cur + 1, 1}, {-cur, 0}, {-cur - 1, 0}, {-1000, 0},
			{999 - cur, 999}, {1000 - cur, 1000}, {1001 - cur, 1000}, {1000, 1000},
			{0, cur},
		} {
			// One beyond a bound is more than a Delta may be, where cur is at the other one.
			if c.delta < -mostRep || c.delta > mostRep {
				continue
			}
			l := deltas(c.delta)
			mayBe(t, l)
			wantWant(t, l, cur, 5, c.want)
		}
	}
}

// P11.1, K1: the Delta is that of the band that is found, not of one beside it, nor of all up to it.
func TestTheBandsOwnDelta(t *testing.T) {
	l := deltas(100, -30, 7, 0, -1, 400, -400, 1)
	mayBe(t, l)
	for i, want := range []int{600, 470, 507, 500, 499, 900, 100, 501} {
		for _, util := range []int64{int64(10 * i), int64(10*i) + 5, int64(10*i) + 9} {
			wantFind(t, l, util, i)
			wantWant(t, l, 500, util, want)
		}
	}
	wantWant(t, l, 500, -1, 500)
}

// P1: bands that may not be a policy's end, too, and do not panic; of what they answer nothing is said.
func TestBandsThatMayNotBe(t *testing.T) {
	many := make([]api.Band, 1000)
	for i := range many {
		many[i] = api.Band{Above: int64(i*7919%1000) - 500, Delta: i*7919%4001 - 2000}
	}
	for _, l := range [][]api.Band{
		from(800, 100), from(100, 100), from(5, 4, 3, 2, 1, 0), from(1, 9, 2, 8, 3, 7, 4, 6, 5), from(-1), from(-5, 0, 5), from(mostFix + 1),
		from(math.MinInt64), from(math.MaxInt64), from(math.MaxInt64, math.MinInt64), from(math.MinInt64, math.MaxInt64, math.MinInt64),
		from(0, 1, 2, 3, 4, 5, 6, 7, 8), make([]api.Band, 9), make([]api.Band, 100000), many,
		deltas(1001), deltas(-1001), deltas(math.MaxInt), deltas(math.MinInt), deltas(math.MinInt, math.MaxInt, math.MinInt+1, math.MaxInt-1),
		{{Above: math.MaxInt64, Delta: math.MaxInt}, {Above: math.MinInt64, Delta: math.MinInt}},
	} {
		for _, util := range loads(l[:min(len(l), 20)]) {
			step.Find(l, util)
			for _, cur := range replicas() {
				step.Want(l, cur, util)
			}
		}
	}
}
