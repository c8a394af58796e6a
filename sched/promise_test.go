package sched_test

import (
	"math"
	"math/rand/v2"
	"slices"
	"sync"
	"testing"

	"governor/api"
	"governor/sched"
)

// again asks whether what is wanted at a time is wanted so many periods later, or ahead, wherever there is such a time.
func again(t *testing.T, period int64, l []api.Slot, at, many int64) {
	later, is := laterBy(period, at, many)
	if !is {
		return
	}
	if now, then := sched.At(period, at), sched.At(period, later); now != then {
		t.Helper()
		t.Errorf("of the period %d the time %d is at %d, and %d periods later at %d", period, at, now, many, then)
	}
	if now, then := sched.Want(period, l, at), sched.Want(period, l, later); now != then {
		t.Helper()
		t.Errorf("%d are wanted %s, and %d periods later %d", now, quoted(period, l, at), many, then)
	}
}

// laterBy is a time so many periods later; false: there is none within an int64.
func laterBy(period, at, many int64) (int64, bool) {
	if many > math.MaxInt64/period || many < -(math.MaxInt64/period) {
		return 0, false
	}
	later := at + many*period
	return later, (later > at) == (many > 0)
}

// P13.2: again a period later, and many periods later and ahead, for times on both sides of 0.
func TestAgain(t *testing.T) {
	for _, period := range periods() {
		for _, l := range lists(period) {
			mayBe(t, period, l)
			for _, at := range times(period, l) {
				for _, many := range []int64{1, 2, 3, 10, 1000, 1 << 20, 1 << 40, -1, -2, -7, -1000, -1 << 30} {
					again(t, period, l, at, many)
				}
			}
		}
	}
}

// P13.2: so it is with many at random.
func TestAgainAtRandom(t *testing.T) {
	r := rand.New(rand.NewPCG(13, 3))
	for range 100000 {
		period := randomPeriod(r)
		l := randomSlots(r, period)
		mayBe(t, period, l)
		at := randomTime(r, period, l)
		again(t, period, l, at, 1)
		again(t, period, l, at, 1+r.Int64N(1<<20))
		again(t, period, l, at, random(r)/period)
	}
}

// P13.2: from the least time on to the greatest there are as many whole periods as fit, and it is so over all of them.
func TestAgainFromBoundToBound(t *testing.T) {
	for _, period := range periods() {
		for _, l := range lists(period) {
			// How many fit from the least time to the greatest is told without the sign, as there is no int64 for it.
			far := math.MaxUint64 / uint64(period) * uint64(period)
			for _, at := range beside(math.MinInt64, math.MaxInt64) {
				other := at + int64(far)
				if at > 0 {
					other = at - int64(far)
				}
				if (at > 0) == (other > 0) {
					continue
				}
				wantAt(t, period, other, sched.At(period, at))
				wantWant(t, period, l, other, sched.Want(period, l, at))
			}
		}
	}
}

// slotBySlot asks, for a period that begins there, whether each slot's number is wanted from where it begins to where the next one does, or the period ends.
func slotBySlot(t *testing.T, period int64, l []api.Slot, start int64) {
	t.Helper()
	for i, s := range l {
		to := end(period, l, i)
		for _, at := range []int64{s.From, s.From + 1, s.From + (to-s.From)/3, s.From + (to-s.From)/2, to - 2, to - 1} {
			if at >= s.From && at < to {
				wantWant(t, period, l, start+at, s.N)
			}
		}
	}
}

// P13.3: slot by slot, in periods on both sides of 0.
func TestSlotBySlot(t *testing.T) {
	for _, period := range periods() {
		for _, l := range lists(period) {
			mayBe(t, period, l)
			for _, start := range starts(period) {
				slotBySlot(t, period, l, start)
			}
		}
	}
}

// P13.3: so it is with many at random.
func TestSlotBySlotAtRandom(t *testing.T) {
	r := rand.New(rand.NewPCG(13, 4))
	for range 50000 {
		period := randomPeriod(r)
		l := randomSlots(r, period)
		mayBe(t, period, l)
		// The period that begins there ends within an int64.
		many := max(random(r)/period, -(math.MaxInt64 / period))
		many = min(many, math.MaxInt64/period-1)
		slotBySlot(t, period, l, many*period)
	}
}

// P13.3: at every moment of whole periods, so that there is none between two slots, and none behind the last one.
func TestEveryMoment(t *testing.T) {
	r := rand.New(rand.NewPCG(13, 5))
	for range 500 {
		period := 1 + r.Int64N(300)
		l := randomSlots(r, period)
		mayBe(t, period, l)
		for _, start := range []int64{0, period, -period, -7 * period} {
			for i, s := range l {
				for at := s.From; at < end(period, l, i); at++ {
					wantWant(t, period, l, start+at, s.N)
				}
			}
		}
	}
}

// P13.1: where a time is in its period is from 0 on, below the period, and goes on by one with the time, until the period ends.
func TestPlaceGoesOn(t *testing.T) {
	for _, period := range periods() {
		for _, n := range times(period, nil) {
			at := sched.At(period, n)
			if at < 0 || at >= period {
				t.Errorf("of the period %d the time %d is at %d", period, n, at)
			}
			if n < math.MaxInt64 {
				wantAt(t, period, n+1, (at+1)%period)
			}
		}
	}
}

// P3: what is handed in is not changed, nor its spare room.
func TestNothingIsChanged(t *testing.T) {
	r := rand.New(rand.NewPCG(13, 6))
	for range 2000 {
		period := randomPeriod(r)
		l := randomSlots(r, period)
		whole := slices.Concat(l, []api.Slot{{From: -5, N: 7}, {From: 3, N: -2000}})
		was := slices.Clone(whole)
		for _, at := range times(period, l) {
			sched.Want(period, whole[:len(l)], at)
		}
		if !slices.Equal(whole, was) {
			t.Fatal("slots were", was, "and are", whole)
		}
	}
}

// P3: so it is with slots that may not be.
func TestNothingIsChangedOfOthers(t *testing.T) {
	for _, was := range [][]api.Slot{from(9, 4, 0), from(4, 4, 4), from(5, 6), from(0, 1, 2, 3, 4, 5, 6, 7, 8), from(-1, math.MaxInt64)} {
		l := slices.Clone(was)
		for _, period := range []int64{-10, -1, 0, 1, 10, math.MaxInt64} {
			for _, at := range []int64{math.MinInt64, -1, 0, 1, 9, math.MaxInt64} {
				sched.Want(period, l, at)
			}
		}
		if !slices.Equal(l, was) {
			t.Fatal("slots were", was, "and are", l)
		}
	}
}

// P3: what is answered hangs on the slots, and neither on what stands in their spare room nor on the calls ahead.
func TestOnItsArgumentsAlone(t *testing.T) {
	r := rand.New(rand.NewPCG(13, 7))
	for range 20000 {
		period := randomPeriod(r)
		l := randomSlots(r, period)
		at := randomTime(r, period, l)
		place, n := sched.At(period, at), sched.Want(period, l, at)
		roomy := slices.Concat(l, []api.Slot{{From: 0, N: 900}, {From: place, N: 901}})[:len(l)]
		sched.Want(1+period, roomy, -at)
		sched.At(1+period, at)
		wantWant(t, period, roomy, at, n)
		wantWant(t, period, slices.Clip(slices.Clone(l)), at, n)
		wantWant(t, period, l, at, n)
		wantAt(t, period, at, place)
	}
}

// P3: so it is where many ask at a time.
func TestManyAtATime(t *testing.T) {
	l := from(0, 1, 5, 100, 800, 5000, 86398, 86399)
	var group sync.WaitGroup
	for range 8 {
		group.Go(func() {
			for _, at := range times(86400, l) {
				asSaid(t, 86400, l, at)
			}
		})
	}
	group.Wait()
}
