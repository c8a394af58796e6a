package sched_test

import (
	"fmt"
	"math"
	"math/big"
	"math/rand/v2"
	"slices"
	"testing"

	"governor/api"
	"governor/event"
	"governor/sched"
)

const (
	mostTime  = 1 << 40
	mostRep   = 1000
	mostSlots = 8
)

// saysAt is M1's At by the chapter's words, with numbers that have room enough: the multiple that is taken off is the greatest one that is not above t.
func saysAt(period, t int64) int64 {
	times, whole := new(big.Int), big.NewInt(period)
	// Div of package big is cut towards what is below, for what divides above 0.
	times.Div(big.NewInt(t), whole)
	return new(big.Int).Sub(big.NewInt(t), times.Mul(times, whole)).Int64()
}

// saysWant is M1's Want by the chapter's words: all slots are gone through, one by one.
func saysWant(period int64, l []api.Slot, t int64) int {
	at, last := saysAt(period, t), api.Slot{}
	for _, s := range l {
		if s.From <= at {
			last = s
		}
	}
	return last.N
}

func wantAt(t *testing.T, period, at, want int64) {
	if got := sched.At(period, at); got != want {
		t.Helper()
		t.Errorf("At of the period %d, time %d is %d, not %d", period, at, got, want)
	}
}

func wantWant(t *testing.T, period int64, l []api.Slot, at int64, want int) {
	if got := sched.Want(period, l, at); got != want {
		t.Helper()
		t.Errorf("Want %s is %d, not %d", quoted(period, l, at), got, want)
	}
}

// asSaid asks for both calls what the words say.
func asSaid(t *testing.T, period int64, l []api.Slot, at int64) {
	t.Helper()
	wantAt(t, period, at, saysAt(period, at))
	wantWant(t, period, l, at, saysWant(period, l, at))
}

// mayBe asks whether a period and slots are as a policy's may be, so that no test asks for the answers of others unawares.
func mayBe(t *testing.T, period int64, l []api.Slot) {
	if !event.Policy(api.Policy{Kind: api.PolSched, Period: period, Slots: l}) {
		t.Helper()
		t.Fatalf("no policy may have the period %d and the slots %v", period, l)
	}
}

// from is a slot for each of these, in their order, each with a number of its own that is not 0.
func from(all ...int64) []api.Slot {
	var l []api.Slot
	for i, n := range all {
		l = append(l, api.Slot{From: n, N: 10 + i})
	}
	return l
}

// numbers is a slot for each of these, in their order, from 0, 10, 20 and so on.
func numbers(all ...int) []api.Slot {
	var l []api.Slot
	for i, n := range all {
		l = append(l, api.Slot{From: int64(10 * i), N: n})
	}
	return l
}

// end is where a slot gives way to the next one, or to the period's end.
func end(period int64, l []api.Slot, i int) int64 {
	if i+1 < len(l) {
		return l[i+1].From
	}
	return period
}

// beside is these, and those beside each, where there are such, in order.
func beside(l ...int64) []int64 {
	var all []int64
	for _, n := range l {
		if n > math.MinInt64 {
			all = append(all, n-1)
		}
		all = append(all, n)
		if n < math.MaxInt64 {
			all = append(all, n+1)
		}
	}
	slices.Sort(all)
	return slices.Compact(all)
}

// starts is where periods begin: on both sides of 0, near to it and as far away as there are whole ones.
func starts(period int64) []int64 {
	var all []int64
	for _, n := range []int64{0, 1, 2, 3, 7, 1000, math.MaxInt64/period - 1} {
		all = append(all, n*period, -n*period)
	}
	slices.Sort(all)
	return slices.Compact(all)
}

// times is those at each slot's beginning and each period's, and beside them, and the ones at the bounds, in order.
func times(period int64, l []api.Slot) []int64 {
	all := []int64{math.MinInt64, -mostTime, 0, mostTime, math.MaxInt64}
	for _, n := range starts(period) {
		all = append(all, n)
		for _, s := range l {
			all = append(all, n+s.From)
		}
	}
	return beside(all...)
}

// periods is the least and the greatest one that may be, those beside them, and others.
func periods() []int64 {
	return []int64{1, 2, 3, 4, 5, 7, 8, 9, 10, 11, 12, 60, 97, 100, 999, 1000, 1001, 1440, 3600, 86400, 1<<31 - 1, 1 << 31, 1<<32 + 1, 1000000007, mostTime / 3, mostTime - 2, mostTime - 1, mostTime}
}

// lists is slots as a policy of this period may have them, of all lengths.
func lists(period int64) [][]api.Slot {
	var all [][]api.Slot
	for _, l := range [][]int64{
		{0},
		{0, 1}, {0, 2}, {0, period / 2}, {0, period - 2}, {0, period - 1},
		{0, 1, 2}, {0, period / 3, period - 1}, {0, period - 2, period - 1}, {0, 1, period - 1},
		{0, 4, 9, 11}, {0, 10, 20, 30, 40}, {0, 1, 2, 4, 8, 16}, {0, 1, 3, 5, 7, 9, 11},
		{0, 1, 2, 3, 4, 5, 6, 7}, {0, 7, 70, 700, 7000, 70000, 700000, 7000000},
		{0, period - 7, period - 6, period - 5, period - 4, period - 3, period - 2, period - 1},
		{0, period / 8, period / 4, 3 * (period / 8), period / 2, 5 * (period / 8), 3 * (period / 4), 7 * (period / 8)},
	} {
		if slots := from(l...); event.Policy(api.Policy{Kind: api.PolSched, Period: period, Slots: slots}) {
			all = append(all, slots)
		}
	}
	return all
}

// random is a number of any size, above 0 and below it.
func random(r *rand.Rand) int64 { return int64(r.Uint64()) >> r.IntN(64) }

// randomPeriod is one of any size that may be, often a bound.
func randomPeriod(r *rand.Rand) int64 {
	switch r.IntN(8) {
	case 0:
		return 1
	case 1:
		return mostTime
	}
	return 1 + r.Int64N(int64(1)<<r.IntN(41))
}

// randomSlots is slots as a policy of this period may have them, of any length, close to each other or far away.
func randomSlots(r *rand.Rand, period int64) []api.Slot {
	within := 1 + r.Int64N(period)
	all := []int64{0}
	for range r.IntN(mostSlots) {
		n := r.Int64N(within)
		if r.IntN(2) == 0 {
			n = period - 1 - n
		}
		all = append(all, n)
	}
	slices.Sort(all)
	l := from(slices.Compact(all)...)
	for i := range l {
		l[i].N = randomNumber(r)
	}
	return l
}

// randomNumber is one that a slot may have, often a bound.
func randomNumber(r *rand.Rand) int {
	switch r.IntN(8) {
	case 0:
		return 0
	case 1:
		return mostRep
	}
	return r.IntN(mostRep + 1)
}

// randomTime is a time of any size, often at a slot's beginning or beside it, in any period.
func randomTime(r *rand.Rand, period int64, l []api.Slot) int64 {
	if r.IntN(3) == 0 {
		return random(r)
	}
	// Close to a bound this may go around, to a time that is beside no slot, but is a time all the same.
	return random(r)/period*period + l[r.IntN(len(l))].From + int64(r.IntN(3)-1)
}

func quoted(period int64, l []api.Slot, at int64) string {
	return fmt.Sprintf("of the period %d, %v, time %d", period, l, at)
}
