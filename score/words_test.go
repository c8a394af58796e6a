package score_test

import (
	"math/rand/v2"
	"testing"

	"governor/api"
	"governor/score"
)

// P17.1, R2: configurations, rows, bad ones and Costs at all bounds, and beside them, as R2's words say.
func TestEveryEdge(t *testing.T) {
	edges(func(x judged) { judgedAsSaid(t, x) })
}

// P17.1, R2: all small rows, by all small configurations.
func TestSmallNumbers(t *testing.T) {
	small(func(x judged) { judgedAsSaid(t, x) })
}

// P17.1, R1: all small rows, by all small windows.
func TestSmallRows(t *testing.T) {
	for _, l := range smallRows(4) {
		toldAsSaid(t, l)
		for window := -1; window <= 6; window++ {
			addedAsSaid(t, window, l, api.Mark{Cost: 7, Bad: window%2 == 0})
		}
	}
}

// P17.1, R1: Add of each small window onto each row of up to twice as many marks.
func TestEveryWindow(t *testing.T) {
	for window := -2; window <= 70; window++ {
		for there := range 3*max(0, window) + 3 {
			addedAsSaid(t, window, numbered(1, there), api.Mark{Cost: 5000, Bad: there%2 == 0})
		}
	}
}

// P17.1, R1: many rows and windows at random, often of just as many marks, or beside that.
func TestAddAtRandom(t *testing.T) {
	r := rand.New(rand.NewPCG(17, 1))
	for range 50000 {
		l := randomRow(r, between(r, 0, 100))
		window := near(r, len(l))
		switch r.IntN(3) {
		case 0:
			window = between(r, -2, mostWindow+2)
		case 1:
			window = int(random(r))
		}
		addedAsSaid(t, window, l, randomMark(r))
	}
}

// P17.1, R1: Cost and Bad of many rows at random; and of two that are laid one behind the other they are those of both.
func TestCostAndBadAtRandom(t *testing.T) {
	r := rand.New(rand.NewPCG(17, 2))
	for range 50000 {
		a, b := randomRow(r, between(r, 0, 70)), randomRow(r, between(r, 0, 70))
		both := append(append([]api.Mark{}, a...), b...)
		for _, l := range [][]api.Mark{a, b, both} {
			toldAsSaid(t, l)
		}
		wantCost(t, both, score.Cost(a)+score.Cost(b))
		wantBad(t, both, score.Bad(a)+score.Bad(b))
	}
}

// P17.1, R1: so it is of all small rows.
func TestOneBehindTheOther(t *testing.T) {
	rows := smallRows(3)
	for _, a := range rows {
		for _, b := range rows {
			both := append(append([]api.Mark{}, a...), b...)
			wantCost(t, both, score.Cost(a)+score.Cost(b))
			wantBad(t, both, score.Bad(a)+score.Bad(b))
		}
	}
}

// P17.1, R2: many configurations and rows of marks at random, so that each word of R2 holds some, and lets some go.
func TestBetterAtRandom(t *testing.T) {
	r := rand.New(rand.NewPCG(17, 3))
	came := map[string]int{}
	for range 100000 {
		x := randomJudged(r)
		judgedAsSaid(t, x)
		both := len(x.live) == x.c.Window && len(x.other) == x.c.Window
		bad, less := saysBad(x.other), saysCost(x.live)-saysCost(x.other)
		few, cheap := bad <= x.c.Ceil, less >= x.c.Margin
		for name, is := range map[string]bool{
			"beats it": x.better(), "does not": !x.better(), "just Margin": both && few && less == x.c.Margin, "one short of Margin": both && few && less == x.c.Margin-1,
			"just Ceil": both && cheap && bad == x.c.Ceil, "one above Ceil": both && cheap && bad == x.c.Ceil+1, "live's above Ceil": both && few && cheap && saysBad(x.live) > x.c.Ceil,
			"live too short": few && cheap && len(x.live) < x.c.Window && len(x.other) == x.c.Window, "live too long": few && cheap && len(x.live) > x.c.Window && len(x.other) == x.c.Window,
			"other too short": few && cheap && len(x.other) < x.c.Window && len(x.live) == x.c.Window, "other too long": few && cheap && len(x.other) > x.c.Window && len(x.live) == x.c.Window,
		} {
			came[name] += 0
			if is {
				came[name]++
			}
		}
	}
	for name, times := range came {
		if times < 500 {
			t.Errorf("%q came %d times alone", name, times)
		}
	}
}

// P1: many at random that may not be end, too, and do not panic.
func TestOthersAtRandom(t *testing.T) {
	r := rand.New(rand.NewPCG(17, 4))
	for range 50000 {
		l, other := randomRow(r, r.IntN(5)), randomRow(r, r.IntN(5))
		for i := range l {
			l[i].Cost = random(r)
		}
		for i := range other {
			other[i].Cost = random(r)
		}
		score.Better(conf(int(random(r)), random(r), int(random(r))), l, other)
		score.Better(conf(len(l), random(r), int(random(r))), l, other)
		score.Better(conf(len(l), random(r), 4), l, l)
		score.Cost(l)
		score.Bad(l)
		score.Add(int(random(r)), l, api.Mark{Cost: random(r), Bad: true})
	}
}
