package score_test

import (
	"math"
	"slices"
	"testing"

	"governor/api"
	"governor/score"
)

// P17.1, R1: the chapter's example: a window of 2, three marks; and what comes beside it.
func TestExample(t *testing.T) {
	one, two, three := api.Mark{Cost: 1}, api.Mark{Cost: 2, Bad: true}, api.Mark{Cost: 3}
	wantAdd(t, 2, []api.Mark{one, two}, three, []api.Mark{two, three})
	wantAdd(t, 2, []api.Mark{two, three}, one, []api.Mark{three, one})
	wantAdd(t, 3, []api.Mark{one, two}, three, []api.Mark{one, two, three})
	wantAdd(t, 1, []api.Mark{one, two}, three, []api.Mark{three})
	wantAdd(t, 0, []api.Mark{one, two}, three, nil)
	wantAdd(t, -1, []api.Mark{one, two}, three, nil)
	var l []api.Mark
	for _, m := range []api.Mark{one, two, three} {
		l = score.Add(2, l, m)
	}
	if !slices.Equal(l, []api.Mark{two, three}) {
		t.Errorf("behind three marks there are %v", l)
	}
}

// P17.1, R1: onto nil, and onto a row with none, be there room behind it or not.
func TestAddOntoNone(t *testing.T) {
	for _, none := range [][]api.Mark{nil, {}, make([]api.Mark, 0, 9), numbered(1, 40)[:0], numbered(1, 40)[40:]} {
		for _, m := range []api.Mark{{}, {Cost: 7}, {Bad: true}, {Cost: mostFix, Bad: true}} {
			for _, window := range []int{1, 2, 32, 33, 1000, math.MaxInt - 1, math.MaxInt} {
				wantAdd(t, window, none, m, []api.Mark{m})
			}
			for _, window := range []int{0, -1, -2, -1000, math.MinInt + 1, math.MinInt} {
				wantAdd(t, window, none, m, nil)
			}
		}
	}
}

// P17.1, R1: onto rows that are shorter than the window, of just as many marks, of one more, and of many more.
func TestAddByWindows(t *testing.T) {
	for _, window := range []int{1, 2, 3, 31, 32, 33, 1000} {
		for _, there := range []int{0, 1, 2, window / 2, window - 3, window - 2, window - 1, window, window + 1, window + 2, 2*window - 1, 2 * window, 10*window + 7, 5000} {
			if there < 0 {
				continue
			}
			next := there + 1
			m := numbered(next, next)[0]
			wantAdd(t, window, numbered(1, there), m, numbered(max(1, next-window+1), next))
		}
	}
}

// P17.1, R1: so it is written out, where the window is just full, and beside that.
func TestAddBesideTheWindow(t *testing.T) {
	for there, want := range [][]api.Mark{
		{{Cost: 9, Bad: true}},
		{{Cost: 1}, {Cost: 9, Bad: true}},
		{{Cost: 1}, {Cost: 2}, {Cost: 9, Bad: true}},
		{{Cost: 1}, {Cost: 2}, {Cost: 3, Bad: true}, {Cost: 9, Bad: true}},
		{{Cost: 2}, {Cost: 3, Bad: true}, {Cost: 4}, {Cost: 9, Bad: true}},
		{{Cost: 3, Bad: true}, {Cost: 4}, {Cost: 5}, {Cost: 9, Bad: true}},
		{{Cost: 4}, {Cost: 5}, {Cost: 6, Bad: true}, {Cost: 9, Bad: true}},
	} {
		wantAdd(t, 4, numbered(1, there), api.Mark{Cost: 9, Bad: true}, want)
	}
}

// P17.1, R1: windows at the ends of all ints, and beside them: below 1 there are none, and of one that is greater than a row all are told.
func TestAddByOddWindows(t *testing.T) {
	for _, window := range odd() {
		for _, there := range []int{0, 1, 2, 31, 32, 33, 1000, 20000} {
			var want []api.Mark
			if window > 0 {
				want = numbered(1, there+1)
			}
			next := there + 1
			wantAdd(t, window, numbered(1, there), numbered(next, next)[0], want)
		}
	}
}

// P17.1, R1: marks are told whole, in their order, be they alike or not.
func TestAddTellsMarksWhole(t *testing.T) {
	for _, m := range []api.Mark{{}, {Bad: true}, {Cost: mostFix}, {Cost: mostFix, Bad: true}} {
		for _, n := range []api.Mark{{}, {Bad: true}, {Cost: mostFix}, {Cost: mostFix, Bad: true}} {
			wantAdd(t, 3, []api.Mark{m, n}, n, []api.Mark{m, n, n})
			wantAdd(t, 3, []api.Mark{m, n}, m, []api.Mark{m, n, m})
			wantAdd(t, 3, []api.Mark{n, m, n}, m, []api.Mark{m, n, m})
			wantAdd(t, 3, []api.Mark{n, n, n, m, m}, n, []api.Mark{m, m, n})
			wantAdd(t, 3, []api.Mark{m, m, m}, m, []api.Mark{m, m, m})
		}
	}
}

// P17.1, R1: where the window is another one on the way, each call tells as many as its own.
func TestAddByManyWindows(t *testing.T) {
	var l []api.Mark
	for n, window := range []int{3, 3, 3, 3, 5, 5, 2, 2, 4, 0, 4, 1, 1, -7, 2, math.MaxInt, math.MaxInt, 2, math.MinInt, 1} {
		l = score.Add(window, l, api.Mark{Cost: int64(n)})
		from := []int{0, 0, 0, 1, 1, 1, 5, 6, 6, 10, 10, 11, 12, 14, 14, 14, 14, 16, 19, 19}[n]
		var want []api.Mark
		for cost := from; cost <= n; cost++ {
			want = append(want, api.Mark{Cost: int64(cost)})
		}
		if !slices.Equal(l, want) {
			t.Errorf("behind %d marks there are %v, not %v", n+1, l, want)
		}
	}
}

// P17.1, R1: Cost of none, of one, and of more, with Costs at their bounds.
func TestCost(t *testing.T) {
	wantCost(t, nil, 0)
	wantCost(t, []api.Mark{}, 0)
	wantCost(t, numbered(1, 9)[:0], 0)
	for _, l := range []func(costs ...int64) []api.Mark{fine, bad} {
		wantCost(t, l(0), 0)
		wantCost(t, l(1), 1)
		wantCost(t, l(mostFix-1), mostFix-1)
		wantCost(t, l(mostFix), mostFix)
		wantCost(t, l(0, 0, 0), 0)
		wantCost(t, l(0, 1, 0), 1)
		wantCost(t, l(3, 5, 7, 11), 26)
		wantCost(t, l(mostFix, 0), mostFix)
		wantCost(t, l(0, mostFix), mostFix)
		wantCost(t, l(mostFix, mostFix), 2*mostFix)
		wantCost(t, l(mostFix, mostFix, 1), 2*mostFix+1)
		wantCost(t, l(1, mostFix, mostFix, mostFix, mostFix), 4*mostFix+1)
	}
	wantCost(t, slices.Concat(fine(3), bad(5), fine(7)), 15)
	wantCost(t, slices.Concat(bad(3), fine(5), bad(7)), 15)
}

// P17.1, R1: Bad of none, of all, and of some, wherever these stand, whatever they cost.
func TestBad(t *testing.T) {
	wantBad(t, nil, 0)
	wantBad(t, []api.Mark{}, 0)
	wantBad(t, bad(1, 2, 3)[:0], 0)
	for _, cost := range []int64{0, 1, mostFix - 1, mostFix} {
		f, b := fine(cost), bad(cost)
		wantBad(t, f, 0)
		wantBad(t, b, 1)
		wantBad(t, slices.Concat(f, f, f), 0)
		wantBad(t, slices.Concat(b, b, b), 3)
		wantBad(t, slices.Concat(b, f, f), 1)
		wantBad(t, slices.Concat(f, b, f), 1)
		wantBad(t, slices.Concat(f, f, b), 1)
		wantBad(t, slices.Concat(b, f, b), 2)
		wantBad(t, slices.Concat(b, b, f), 2)
		wantBad(t, slices.Concat(f, b, b), 2)
	}
}

// P17.1, R1: Cost and Bad go through all marks, also where there are more than any window has.
func TestManyMarks(t *testing.T) {
	for _, n := range []int{31, 32, 33, 255, 256, 257, 1000, 65536, 65537, 1000000} {
		for _, cost := range []int64{0, 1, mostFix} {
			l := slices.Repeat(bad(cost), n)
			wantCost(t, l, cost*int64(n))
			wantBad(t, l, n)
			l[0].Bad, l[n-1].Bad = false, false
			wantBad(t, l, n-2)
		}
	}
	wantCost(t, numbered(1, 1000), 500500)
	wantBad(t, numbered(1, 1000), 333)
}

// live and four are rows of just four marks, of which one costs two less, and has one bad one fewer.
func live() []api.Mark { return slices.Concat(fine(3), bad(4, 4), fine(3)) }

func four() []api.Mark { return slices.Concat(fine(3, 3), bad(3), fine(3)) }

// P17.1, R2: one row that beats another one, and each word of R2 by which it does not.
func TestBetter(t *testing.T) {
	wantBetter(t, judged{conf(4, 2, 1), live(), four()}, true)
	wantBetter(t, judged{conf(4, 2, 1), four(), live()}, false)
	wantBetter(t, judged{conf(4, 3, 1), live(), four()}, false)
	wantBetter(t, judged{conf(4, 2, 0), live(), four()}, false)
	wantBetter(t, judged{conf(3, 2, 1), live(), four()}, false)
	wantBetter(t, judged{conf(5, 2, 1), live(), four()}, false)
	wantBetter(t, judged{conf(4, 2, 1), live()[1:], four()}, false)
	wantBetter(t, judged{conf(4, 2, 1), live(), four()[1:]}, false)
}

// P17.1, R2: just Window marks on both sides, and not one fewer, one more, none or many, on either side or both.
func TestBetterByWindow(t *testing.T) {
	for _, window := range []int{1, 2, 3, 4, 16, mostWindow - 1, mostWindow} {
		for _, n := range []int{0, 1, window - 1, window, window + 1, 2 * window, 1000} {
			for _, m := range []int{0, 1, window - 1, window, window + 1, 2 * window, 1000} {
				// Costs are such that each row beats each other one, but for how many marks they have.
				l, other := costing(n, min(int64(n), 1)*mostFix, 0), costing(m, 0, 0)
				wantBetter(t, judged{conf(window, 0, mostWindow), l, other}, n == window && m == window)
				wantBetter(t, judged{conf(window, 7, 0), l, other}, n == window && m == window)
			}
		}
		wantBetter(t, judged{conf(window, 0, 0), nil, nil}, false)
		wantBetter(t, judged{conf(window, 0, 0), []api.Mark{}, nil}, false)
		wantBetter(t, judged{conf(window, 0, 0), costing(window, 9, 0), nil}, false)
		wantBetter(t, judged{conf(window, 0, 0), nil, costing(window, 9, 0)}, false)
	}
}

// P17.1, R2: at most Ceil bad ones, and not one more, wherever they stand in the other row.
func TestBetterByCeil(t *testing.T) {
	for _, window := range []int{1, 2, 4, mostWindow - 1, mostWindow} {
		for ceil := range 1 + mostWindow {
			for bad := range 1 + window {
				other := costing(window, 5, bad)
				wantBetter(t, judged{conf(window, 3, ceil), costing(window, 9, 0), other}, bad <= ceil)
				slices.Reverse(other)
				wantBetter(t, judged{conf(window, 3, ceil), costing(window, 9, 0), other}, bad <= ceil)
			}
		}
	}
}

// P17.1, R2: so it is written out, with a Ceil of 0 as well, and of as many as the window.
func TestBetterBesideCeil(t *testing.T) {
	for _, x := range []struct {
		ceil, bad int
		want      bool
	}{
		{0, 0, true}, {0, 1, false}, {0, 2, false}, {0, 4, false}, {1, 0, true}, {1, 1, true}, {1, 2, false}, {1, 4, false},
		{2, 1, true}, {2, 2, true}, {2, 3, false}, {3, 2, true}, {3, 3, true}, {3, 4, false}, {4, 3, true}, {4, 4, true}, {5, 4, true}, {mostWindow, 4, true},
	} {
		wantBetter(t, judged{conf(4, 2, x.ceil), fine(5, 5, 5, 5), costing(4, 18, x.bad)}, x.want)
	}
}

// P17.1, R2: how many of live's are bad is not asked, also where there are more than Ceil.
func TestBetterOfBadLive(t *testing.T) {
	for _, window := range []int{1, 2, 4, mostWindow} {
		for _, ceil := range []int{0, 1, window - 1, window} {
			for bad := range 1 + window {
				l := costing(window, 9, bad)
				wantBetter(t, judged{conf(window, 3, ceil), l, costing(window, 6, 0)}, true)
				wantBetter(t, judged{conf(window, 3, ceil), l, costing(window, 6, min(ceil, window))}, true)
				wantBetter(t, judged{conf(window, 3, ceil), l, costing(window, 7, 0)}, false)
			}
		}
	}
}

// P17.1, R2: with Margin it costs just as much as live, one more, and one less.
func TestBetterByMargin(t *testing.T) {
	for _, x := range []struct {
		margin      int64
		live, other []api.Mark
		want        bool
	}{
		{0, fine(5, 5), fine(5, 5), true}, {0, fine(5, 5), fine(4, 6), true}, {0, fine(5, 5), fine(5, 6), false}, {0, fine(5, 5), fine(5, 4), true},
		{0, fine(0, 0), fine(0, 0), true}, {0, fine(0, 0), fine(0, 1), false}, {0, fine(0, 1), fine(0, 0), true},
		{1, fine(5, 5), fine(5, 5), false}, {1, fine(5, 5), fine(5, 4), true}, {1, fine(5, 5), fine(5, 3), true}, {1, fine(0, 0), fine(0, 0), false}, {1, fine(1, 0), fine(0, 0), true},
		{3, fine(5, 5), fine(8, 0), false}, {3, fine(5, 5), fine(0, 7), true}, {3, fine(5, 5), fine(3, 3), true},
		{10, fine(5, 5), fine(0, 0), true}, {10, fine(5, 5), fine(0, 1), false}, {11, fine(5, 5), fine(0, 0), false},
		{mostFix, fine(mostFix, 0), fine(0, 0), true}, {mostFix, fine(mostFix, 0), fine(0, 1), false}, {mostFix, fine(mostFix-1, 0), fine(0, 0), false},
		{mostFix, fine(mostFix, 1), fine(0, 1), true}, {mostFix, fine(mostFix, 1), fine(1, 1), false}, {mostFix, fine(mostFix, 1), fine(0, 0), true},
		{mostFix, fine(mostFix, mostFix), fine(mostFix, 0), true}, {mostFix, fine(mostFix, mostFix), fine(mostFix, 1), false},
		{mostFix - 1, fine(mostFix, mostFix), fine(mostFix, 1), true}, {mostFix - 1, fine(mostFix, mostFix), fine(mostFix, 2), false},
		{mostFix, fine(0, 0), fine(mostFix, mostFix), false}, {0, fine(mostFix, mostFix), fine(mostFix, mostFix), true}, {1, fine(mostFix, mostFix), fine(mostFix, mostFix), false},
	} {
		wantBetter(t, judged{conf(2, x.margin, 0), x.live, x.other}, x.want)
	}
}

// P17.1, R2: the greatest Costs that there may be, of as many marks as there may be, are summed whole.
func TestBetterOfTheDearest(t *testing.T) {
	const dear = mostWindow * mostFix
	for _, margin := range []int64{0, 1, mostFix - 1, mostFix} {
		c := conf(mostWindow, margin, 0)
		for cost, want := range map[int64]bool{0: true, dear - 2*mostFix: true, dear - margin - 1: true, dear - margin: true, dear - margin + 1: false} {
			if cost <= dear {
				wantBetter(t, judged{c, costing(mostWindow, dear, 0), costing(mostWindow, cost, 0)}, want)
			}
		}
	}
	// All of one row cost a 2^32 less than those of another one, which is nothing for who sums by 32 bits.
	wantBetter(t, judged{conf(8, 1, 0), costing(8, 5+1<<32, 0), costing(8, 5, 0)}, true)
	wantBetter(t, judged{conf(8, 1, 0), costing(8, 5, 0), costing(8, 5+1<<32, 0)}, false)
}

// P17.1, R2: the same row on both sides is better by no margin alone, and within Ceil alone.
func TestBetterOfTheSameRow(t *testing.T) {
	for _, c := range confs() {
		for bad := range 1 + c.Window {
			for _, cost := range []int64{0, 1, 500, int64(c.Window) * mostFix} {
				l := costing(c.Window, cost, bad)
				wantBetter(t, judged{c, l, l}, c.Margin == 0 && bad <= c.Ceil)
				wantBetter(t, judged{c, l[1:], l[1:]}, false)
				l = append(l, l[0])
				wantBetter(t, judged{c, l, l}, false)
			}
		}
	}
}

// P1: configurations, and marks, that may not be end, too, and do not panic; of what they answer nothing is said.
func TestWhatMayNotBe(t *testing.T) {
	numbers := []int{math.MinInt, math.MinInt + 1, -mostFix - 1, -1, 0, 1, 3, mostWindow + 1, mostFix + 1, math.MaxInt - 1, math.MaxInt}
	for _, a := range numbers {
		for _, b := range numbers {
			rows := [][]api.Mark{nil, {}, fine(int64(a)), bad(int64(b), int64(a)), slices.Concat(fine(int64(a), int64(a)), bad(int64(b)))}
			for _, l := range rows {
				score.Cost(l)
				score.Bad(l)
				score.Add(a, l, api.Mark{Cost: int64(b)})
				score.Add(b, l, api.Mark{Cost: int64(a), Bad: true})
				for _, other := range rows {
					for _, n := range numbers {
						score.Better(conf(a, int64(b), n), l, other)
						score.Better(conf(len(l), int64(n), b), l, other)
						score.Better(conf(len(l), int64(n), mostWindow), l, other)
					}
				}
			}
		}
	}
	score.Better(api.Conf{}, nil, nil)
	score.Better(api.Conf{}, fine(1), fine(1))
	score.Better(conf(mostWindow+1, 0, 0), costing(mostWindow+1, 9, 0), costing(mostWindow+1, 9, 0))
}
