package sched_test

import (
	"math"
	"testing"

	"governor/api"
	"governor/sched"
)

// P13.1, M1: the chapter's example, and other times of the same period.
func TestExample(t *testing.T) {
	wantAt(t, 10, -1, 9)
	for _, c := range []struct{ at, want int64 }{
		{-21, 9}, {-20, 0}, {-19, 1}, {-11, 9}, {-10, 0}, {-9, 1}, {-5, 5}, {-2, 8}, {0, 0}, {1, 1}, {7, 7}, {9, 9}, {10, 0}, {11, 1}, {19, 9}, {20, 0}, {25, 5},
	} {
		wantAt(t, 10, c.at, c.want)
	}
}

// P13.1, M1: at a multiple of a period, one short of it and one beyond it, on both sides of 0.
func TestBesideMultiples(t *testing.T) {
	for _, period := range periods() {
		for _, n := range starts(period) {
			wantAt(t, period, n, 0)
			wantAt(t, period, n-1, period-1)
			wantAt(t, period, n+1, 1%period)
			wantAt(t, period, n+period-1, period-1)
			wantAt(t, period, n+period, 0)
		}
	}
}

// P13.1, M1: at the bounds of all times and beside them.
func TestBoundsOfTimes(t *testing.T) {
	for _, c := range []struct{ period, at, want int64 }{
		{1, math.MinInt64, 0}, {1, math.MinInt64 + 1, 0}, {1, math.MaxInt64 - 1, 0}, {1, math.MaxInt64, 0},
		{2, math.MinInt64, 0}, {2, math.MinInt64 + 1, 1}, {2, math.MaxInt64 - 1, 0}, {2, math.MaxInt64, 1},
		{3, math.MinInt64, 1}, {3, math.MinInt64 + 1, 2}, {3, math.MinInt64 + 2, 0}, {3, math.MaxInt64 - 1, 0}, {3, math.MaxInt64, 1},
		{10, math.MinInt64, 2}, {10, math.MinInt64 + 1, 3}, {10, math.MinInt64 + 8, 0}, {10, math.MaxInt64 - 7, 0}, {10, math.MaxInt64 - 1, 6}, {10, math.MaxInt64, 7},
		{mostTime - 1, math.MinInt64, mostTime - 1 - 1<<23}, {mostTime - 1, math.MaxInt64, 1<<23 - 1},
		{mostTime, math.MinInt64, 0}, {mostTime, math.MinInt64 + 1, 1}, {mostTime, math.MinInt64 + 2, 2}, {mostTime, math.MaxInt64 - 1, mostTime - 2}, {mostTime, math.MaxInt64, mostTime - 1},
	} {
		wantAt(t, c.period, c.at, c.want)
	}
	for _, period := range periods() {
		for _, at := range beside(math.MinInt64, math.MinInt64+period, math.MaxInt64-period, math.MaxInt64) {
			wantAt(t, period, at, saysAt(period, at))
		}
	}
}

// P13.1, M1: a period of 1 has one moment, and slots that may be there only one.
func TestLeastPeriod(t *testing.T) {
	l := []api.Slot{{N: 7}}
	mayBe(t, 1, l)
	for _, at := range []int64{math.MinInt64, math.MinInt64 + 1, -mostTime, -2, -1, 0, 1, 2, 5, mostTime, math.MaxInt64 - 1, math.MaxInt64} {
		wantAt(t, 1, at, 0)
		wantWant(t, 1, l, at, 7)
	}
}

// P13.1, M1: the greatest period, with a slot at its last moment.
func TestGreatestPeriod(t *testing.T) {
	l := []api.Slot{{N: 1}, {From: mostTime / 2, N: 2}, {From: mostTime - 1, N: 3}}
	mayBe(t, mostTime, l)
	for _, c := range []struct {
		time, at int64
		want     int
	}{
		{0, 0, 1}, {1, 1, 1}, {mostTime/2 - 1, mostTime/2 - 1, 1}, {mostTime / 2, mostTime / 2, 2}, {mostTime - 2, mostTime - 2, 2}, {mostTime - 1, mostTime - 1, 3},
		{mostTime, 0, 1}, {mostTime + 1, 1, 1}, {2*mostTime - 1, mostTime - 1, 3}, {2 * mostTime, 0, 1},
		{-1, mostTime - 1, 3}, {-2, mostTime - 2, 2}, {-mostTime / 2, mostTime / 2, 2}, {-mostTime/2 - 1, mostTime/2 - 1, 1}, {-mostTime + 1, 1, 1}, {-mostTime, 0, 1}, {-mostTime - 1, mostTime - 1, 3},
		{math.MinInt64, 0, 1}, {math.MinInt64 + mostTime - 1, mostTime - 1, 3}, {math.MaxInt64 - 1, mostTime - 2, 2}, {math.MaxInt64, mostTime - 1, 3},
	} {
		wantAt(t, mostTime, c.time, c.at)
		wantWant(t, mostTime, l, c.time, c.want)
	}
}

// P13.1, M1: one slot is wanted at all times.
func TestOneSlot(t *testing.T) {
	for _, period := range periods() {
		for _, n := range []int{0, 1, 2, 500, 999, 1000} {
			l := []api.Slot{{N: n}}
			mayBe(t, period, l)
			for _, at := range times(period, l) {
				wantWant(t, period, l, at, n)
			}
		}
	}
}

// P13.1, M1: two slots, one beside the other, and as far away as may be.
func TestTwoSlots(t *testing.T) {
	for _, c := range []struct{ period, from int64 }{{2, 1}, {3, 1}, {3, 2}, {10, 1}, {10, 5}, {10, 9}, {86400, 28800}, {mostTime, 1}, {mostTime, mostTime / 2}, {mostTime, mostTime - 1}} {
		l := []api.Slot{{N: 5}, {From: c.from, N: 2}}
		mayBe(t, c.period, l)
		for _, n := range starts(c.period) {
			wantWant(t, c.period, l, n-1, 2)
			wantWant(t, c.period, l, n, 5)
			wantWant(t, c.period, l, n+c.from/2, 5)
			wantWant(t, c.period, l, n+c.from-1, 5)
			wantWant(t, c.period, l, n+c.from, 2)
			wantWant(t, c.period, l, n+(c.from+c.period)/2, 2)
			wantWant(t, c.period, l, n+c.period-1, 2)
			wantWant(t, c.period, l, n+c.period, 5)
		}
	}
}

// P13.1, M1: as many slots as a policy may have; each is wanted just at its From, one beyond it, and just ahead of the next one, and the one ahead of it just short of it.
func TestAsManyAsMayBe(t *testing.T) {
	l := from(0, 1, 3, 800, 801, 5000, 86398, 86399)
	for i, n := range []int{4, 1000, 0, 7, 8, 0, 999, 1} {
		l[i].N = n
	}
	mayBe(t, 86400, l)
	if len(l) != mostSlots {
		t.Fatal("there are", len(l), "slots")
	}
	for _, n := range starts(86400) {
		ahead := 1
		for i, s := range l {
			wantWant(t, 86400, l, n+s.From-1, ahead)
			wantWant(t, 86400, l, n+s.From, s.N)
			next := end(86400, l, i)
			wantWant(t, 86400, l, n+min(s.From+1, next-1), s.N)
			wantWant(t, 86400, l, n+next-1, s.N)
			ahead = s.N
		}
		wantWant(t, 86400, l, n+86400, 4)
	}
}

// P13.1, M1: a slot at each moment of a period.
func TestASlotAMoment(t *testing.T) {
	for period := int64(1); period <= mostSlots; period++ {
		l := from(0, 1, 2, 3, 4, 5, 6, 7)[:period]
		mayBe(t, period, l)
		for at := -3 * period; at < 3*period; at++ {
			wantWant(t, period, l, at, 10+int((at+3*period)%period))
		}
	}
}

// P13.1, M1: what is wanted is the slot's own number, whatever it is: it is neither summed nor taken for one that is not there.
func TestNumbers(t *testing.T) {
	for _, all := range [][]int{
		{0, 0, 0}, {5, 5, 5}, {1000, 1000, 1000}, {0, 1000, 0}, {1000, 0, 1000}, {0, 1, 2, 3, 4, 5, 6, 7}, {1000, 999, 998, 3, 2, 1, 0, 0}, {7, 0, 0, 7, 7, 0, 1000, 1000},
	} {
		l := numbers(all...)
		period := int64(10*len(all)) + 3
		mayBe(t, period, l)
		for i, n := range all {
			for _, at := range []int64{0, 1, 9} {
				wantWant(t, period, l, int64(10*i)+at, n)
				wantWant(t, period, l, int64(10*i)+at-period, n)
			}
		}
		last := all[len(all)-1]
		for at := period - 4; at < period; at++ {
			wantWant(t, period, l, at, last)
			wantWant(t, period, l, at-period, last)
		}
	}
}

// P13.1, M1: every number that a slot may have.
func TestEveryNumber(t *testing.T) {
	for n := range mostRep + 1 {
		l := numbers(n, mostRep-n)
		mayBe(t, 20, l)
		wantWant(t, 20, l, 9, n)
		wantWant(t, 20, l, -10, mostRep-n)
	}
}

// P1: a period that may not be, and slots that may not be, end, too, and do not panic; of what they answer nothing is said.
func TestWhatMayNotBe(t *testing.T) {
	many := make([]api.Slot, 1000)
	for i := range many {
		many[i] = api.Slot{From: int64(i*7919%1000) - 500, N: i*7919%4001 - 2000}
	}
	all := [][]api.Slot{
		nil, {}, from(0), from(0, 4, 9), from(1), from(5, 6), from(-1), from(-5, 0, 5), from(9, 4, 0), from(0, 9, 4), from(4, 4, 4), from(0, 0), from(10), from(0, 10), from(0, mostTime),
		from(math.MinInt64), from(math.MaxInt64), from(math.MaxInt64, math.MinInt64), from(math.MinInt64, 0, math.MaxInt64),
		from(0, 1, 2, 3, 4, 5, 6, 7, 8), make([]api.Slot, 9), make([]api.Slot, 10000), many,
		numbers(-1), numbers(1001), numbers(math.MinInt), numbers(math.MaxInt), numbers(math.MaxInt, math.MinInt),
	}
	for _, period := range []int64{math.MinInt64, math.MinInt64 + 1, -mostTime, -10, -2, -1, 0, 1, 10, mostTime, mostTime + 1, 1 << 62, math.MaxInt64 - 1, math.MaxInt64} {
		for _, at := range beside(math.MinInt64, -mostTime, -10, 0, 10, mostTime, math.MaxInt64, period) {
			sched.At(period, at)
			for _, l := range all {
				sched.Want(period, l, at)
			}
		}
	}
}
