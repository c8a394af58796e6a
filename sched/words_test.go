package sched_test

import (
	"math/bits"
	"math/rand/v2"
	"testing"

	"governor/sched"
)

// P13.1: every time beside 0 in each of many short periods, held against the words.
func TestEveryTime(t *testing.T) {
	for period := int64(1); period <= 200; period++ {
		for at := -3*period - 2; at <= 3*period+2; at++ {
			wantAt(t, period, at, saysAt(period, at))
		}
	}
}

// P13.1: every list of up to 8 slots in a period of 10, at every time of it and of those beside it, held against the words.
func TestEveryList(t *testing.T) {
	const line = 10
	lengths := map[int]int{}
	// The first slot's From is 0 in all that may be, so the lists are those whose set has the place 0.
	for set := 1; set < 1<<line; set += 2 {
		if bits.OnesCount(uint(set)) > mostSlots {
			continue
		}
		var all []int64
		for i := range line {
			if set>>i&1 == 1 {
				all = append(all, int64(i))
			}
		}
		l := from(all...)
		mayBe(t, line, l)
		lengths[len(l)]++
		for at := int64(-2 * line); at < 2*line; at++ {
			asSaid(t, line, l, at)
		}
	}
	for n := 1; n <= mostSlots; n++ {
		if lengths[n] == 0 {
			t.Error("there was no list of", n, "slots")
		}
	}
}

// P13.1: every period, with slots of all lengths, at each beginning and beside it, near to 0 and far away, held against the words.
func TestPeriodsAndSlots(t *testing.T) {
	for _, period := range periods() {
		for _, l := range lists(period) {
			mayBe(t, period, l)
			for _, at := range times(period, l) {
				asSaid(t, period, l, at)
			}
		}
	}
}

// P13.1: many at random, of all lengths.
func TestManyAtRandom(t *testing.T) {
	r := rand.New(rand.NewPCG(13, 1))
	lengths, wanted := map[int]bool{}, map[int]bool{}
	for range 200000 {
		period := randomPeriod(r)
		l := randomSlots(r, period)
		mayBe(t, period, l)
		at := randomTime(r, period, l)
		asSaid(t, period, l, at)
		lengths[len(l)], wanted[sched.Want(period, l, at)] = true, true
	}
	if len(lengths) != mostSlots || len(wanted) != mostRep+1 {
		t.Error("there were", len(lengths), "lengths and", len(wanted), "numbers")
	}
}

// P13.1: what is wanted hangs on where in the period the time is, so a time and its At want the same.
func TestTimeAndItsPlace(t *testing.T) {
	r := rand.New(rand.NewPCG(13, 2))
	for range 50000 {
		period := randomPeriod(r)
		l := randomSlots(r, period)
		at := randomTime(r, period, l)
		wantWant(t, period, l, at, sched.Want(period, l, sched.At(period, at)))
	}
}
