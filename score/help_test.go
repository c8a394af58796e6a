package score_test

import (
	"fmt"
	"math"
	"math/rand/v2"
	"slices"
	"testing"

	"governor/api"
	"governor/event"
	"governor/score"
)

const (
	mostFix    = 1000000000
	mostWindow = 32
)

// judged is what Better is asked.
type judged struct {
	c           api.Conf
	live, other []api.Mark
}

func (x judged) better() bool { return score.Better(x.c, x.live, x.other) }

// turned is the two rows the other way round.
func (x judged) turned() judged { return judged{x.c, x.other, x.live} }

func (x judged) String() string {
	return fmt.Sprintf("Better of Window %d, Margin %d, Ceil %d, %v, %v", x.c.Window, x.c.Margin, x.c.Ceil, x.live, x.other)
}

// saysAdd is R1's Add by the chapter's words: the mark is laid behind, and those ahead go, one by one, until there are as many as the window.
func saysAdd(window int, l []api.Mark, m api.Mark) []api.Mark {
	all := append(slices.Clone(l), m)
	for len(all) > 0 && len(all) > window {
		all = all[1:]
	}
	return all
}

// saysCost is R1's Cost by the chapter's words.
func saysCost(l []api.Mark) int64 {
	cost := int64(0)
	for i := len(l) - 1; i >= 0; i-- {
		cost += l[i].Cost
	}
	return cost
}

// saysBad is R1's Bad by the chapter's words.
func saysBad(l []api.Mark) int {
	return len(slices.DeleteFunc(slices.Clone(l), func(m api.Mark) bool { return !m.Bad }))
}

// saysBetter is R2 by the chapter's words, one by one.
func saysBetter(x judged) bool {
	both := len(x.live) == x.c.Window && len(x.other) == x.c.Window
	few := saysBad(x.other) <= x.c.Ceil
	less := saysCost(x.live)-saysCost(x.other) >= x.c.Margin
	return both && few && less
}

func wantAdd(t *testing.T, window int, l []api.Mark, m api.Mark, want []api.Mark) {
	if got := score.Add(window, l, m); !slices.Equal(got, want) {
		t.Helper()
		t.Errorf("Add of the window %d, %v, %v is %v, not %v", window, l, m, got, want)
	}
}

func wantCost(t *testing.T, l []api.Mark, want int64) {
	if got := score.Cost(l); got != want {
		t.Helper()
		t.Errorf("Cost of %v is %d, not %d", l, got, want)
	}
}

func wantBad(t *testing.T, l []api.Mark, want int) {
	if got := score.Bad(l); got != want {
		t.Helper()
		t.Errorf("Bad of %v is %d, not %d", l, got, want)
	}
}

func wantBetter(t *testing.T, x judged, want bool) {
	t.Helper()
	mayBe(t, x)
	if got := x.better(); got != want {
		t.Errorf("%v is %t", x, got)
	}
}

// addedAsSaid asks Add for what the words say.
func addedAsSaid(t *testing.T, window int, l []api.Mark, m api.Mark) {
	t.Helper()
	wantAdd(t, window, l, m, saysAdd(window, l, m))
}

// toldAsSaid asks Cost and Bad for what the words say.
func toldAsSaid(t *testing.T, l []api.Mark) {
	t.Helper()
	wantCost(t, l, saysCost(l))
	wantBad(t, l, saysBad(l))
}

// judgedAsSaid asks Better for what the words say, both ways round.
func judgedAsSaid(t *testing.T, x judged) {
	t.Helper()
	wantBetter(t, x, saysBetter(x))
	wantBetter(t, x.turned(), saysBetter(x.turned()))
}

// mayBe asks whether a configuration is right, and whether there may be marks of such Costs, so that no test asks for the answers of others unawares.
func mayBe(t *testing.T, x judged) {
	dear := func(m api.Mark) bool { return m.Cost < 0 || m.Cost > mostFix }
	if !event.Conf(x.c) || slices.ContainsFunc(x.live, dear) || slices.ContainsFunc(x.other, dear) {
		t.Helper()
		t.Fatalf("of %v nothing is said", x)
	}
}

// conf is a configuration of these three numbers, and of ordinary ones beside.
func conf(window int, margin int64, ceil int) api.Conf {
	return api.Conf{Min: 1, Max: 20, Rate: 4, Stable: 3, Cap: 100, Delay: 1, Slack: 50, Window: window, Margin: margin, Ceil: ceil, Probe: 3, Breach: 1}
}

// fine is marks of these Costs, of which none is bad; bad those that all are.
func fine(costs ...int64) []api.Mark { return marks(false, costs) }

func bad(costs ...int64) []api.Mark { return marks(true, costs) }

func marks(bad bool, costs []int64) []api.Mark {
	var l []api.Mark
	for _, cost := range costs {
		l = append(l, api.Mark{Cost: cost, Bad: bad})
	}
	return l
}

// numbered is marks whose Costs are from one number on up to another one, each third one bad, so that none is like another one.
func numbered(from, to int) []api.Mark {
	l := []api.Mark{}
	for n := from; n <= to; n++ {
		l = append(l, api.Mark{Cost: int64(n), Bad: n%3 == 0})
	}
	return l
}

// costing is so many marks that cost so much in all, of which the first ones are bad.
func costing(n int, cost int64, bad int) []api.Mark {
	l := make([]api.Mark, n)
	for i := range l {
		l[i] = api.Mark{Cost: min(cost, mostFix), Bad: i < bad}
		cost -= l[i].Cost
	}
	return l
}

// odd is windows at the ends of all ints, and beside and close to these, and those at which narrower numbers end.
func odd() []int {
	return []int{
		math.MinInt, math.MinInt + 1, math.MinInt + 2, math.MinInt + mostWindow, math.MinInt32, -1 << 16, -33, -32, -2, -1, 0,
		1 << 16, math.MaxInt32, 1 << 31, 1 << 32, 1<<32 + 1, math.MaxInt - mostWindow, math.MaxInt - 2, math.MaxInt - 1, math.MaxInt,
	}
}

// confs is ordinary ones, and those at the bounds of Window, Margin and Ceil.
func confs() []api.Conf {
	var all []api.Conf
	for _, window := range []int{1, 2, 4, mostWindow - 1, mostWindow} {
		for _, margin := range []int64{0, 1, 2, 1000, mostFix - 1, mostFix} {
			for _, ceil := range []int{0, 1, window - 1, window, window + 1, mostWindow} {
				if ceil <= mostWindow {
					all = append(all, conf(window, margin, ceil))
				}
			}
		}
	}
	return all
}

// held is those of some numbers that are 0 to most.
func held[N int | int64](most N, l ...N) []N {
	return slices.DeleteFunc(l, func(n N) bool { return n < 0 || n > most })
}

// edges asks f for configurations at all bounds, with rows of just Window marks and beside it, with bad ones and Costs at all bounds and beside them.
func edges(f func(x judged)) {
	for _, c := range confs() {
		for _, n := range []int{0, 1, c.Window - 1, c.Window, c.Window + 1, 2 * c.Window} {
			for _, m := range []int{0, c.Window - 1, c.Window, c.Window + 1} {
				bads := held(m, 0, c.Ceil-1, c.Ceil, c.Ceil+1, m)
				if n != c.Window || m != c.Window {
					// Where a row is too short, or too long, all else would let it be better.
					bads = []int{0}
				}
				for _, bad := range bads {
					edgesOfCost(c, n, m, bad, f)
				}
			}
		}
	}
}

// edgesOfCost asks f for rows of so many marks, whose Costs are just Margin from one another, and beside that; live's marks are all bad and none is in turn.
func edgesOfCost(c api.Conf, n, m, bad int, f func(x judged)) {
	dear := int64(n) * mostFix
	for i, cost := range held(int64(m)*mostFix, 0, 1, 500, dear-c.Margin-1, dear-c.Margin, dear-c.Margin+1) {
		for j, live := range held(dear, 0, cost, cost+c.Margin-1, cost+c.Margin, cost+c.Margin+1, dear-1, dear) {
			f(judged{c, costing(n, live, (i+j)%2*n), costing(m, cost, bad)})
		}
	}
}

// smallRows is all rows of up to so many marks, with Costs from 0 to 2, bad or not.
func smallRows(most int) [][]api.Mark {
	all := [][]api.Mark{nil}
	for from := 0; most > 0; most-- {
		to := len(all)
		for _, ahead := range all[from:to] {
			for place := range 6 {
				all = append(all, append(slices.Clone(ahead), api.Mark{Cost: int64(place / 2), Bad: place%2 == 1}))
			}
		}
		from = to
	}
	return all
}

// small asks f for all small configurations, with all pairs of small rows.
func small(f func(x judged)) {
	rows := smallRows(2)
	for window := 1; window <= 3; window++ {
		for margin := range int64(6) {
			for ceil := range 4 {
				for _, live := range rows {
					for _, other := range rows {
						f(judged{conf(window, margin, ceil), live, other})
					}
				}
			}
		}
	}
}

// random is a number of any size, on either side.
func random(r *rand.Rand) int64 { return int64(r.Uint64()) >> r.IntN(64) }

// near is one that is a few beside a number, or it.
func near[N int | int64](r *rand.Rand, n N) N { return n + N(r.IntN(5)) - 2 }

// into is the number from least to most that is nearest to n.
func into[N int | int64](least, most, n N) N { return max(least, min(n, most)) }

// between is one from least to most, often one of these two or close to it.
func between[N int | int64](r *rand.Rand, least, most N) N {
	n := N(r.Int64N(int64(most-least)+1) >> r.IntN(31))
	if r.IntN(3) == 0 {
		return most - n
	}
	return least + n
}

// randomConf is any that is right.
func randomConf(r *rand.Rand) api.Conf {
	most := between(r, 1, 1000)
	return api.Conf{
		Min: between(r, 1, most), Max: most, Rate: between(r, 1, 1000), Stable: between[int64](r, 0, 1<<40),
		Cap: between[int64](r, 1, 1000000), Delay: r.IntN(9), Slack: between[int64](r, 0, mostFix),
		Window: between(r, 1, mostWindow), Margin: between[int64](r, 0, mostFix), Ceil: between(r, 0, mostWindow), Probe: between(r, 1, mostWindow), Breach: between(r, 0, mostWindow),
	}
}

// randomMark is any whose Cost may be.
func randomMark(r *rand.Rand) api.Mark {
	return api.Mark{Cost: between[int64](r, 0, mostFix), Bad: r.IntN(2) == 0}
}

// randomRow is so many marks at random.
func randomRow(r *rand.Rand, n int) []api.Mark {
	l := make([]api.Mark, n)
	for i := range l {
		l[i] = randomMark(r)
	}
	return l
}

// spread is so many marks at random that cost so much in all, of which so many are bad.
func spread(r *rand.Rand, n int, cost int64, bad int) []api.Mark {
	l := costing(n, cost, bad)
	for range 2 * n {
		from, to := &l[r.IntN(n)], &l[r.IntN(n)]
		if most := min(from.Cost, mostFix-to.Cost); from != to {
			over := between(r, 0, most)
			from.Cost -= over
			to.Cost += over
		}
	}
	r.Shuffle(n, func(i, j int) { l[i], l[j] = l[j], l[i] })
	return l
}

// randomJudged is two rows of any marks, mostly of just Window, often with just so many bad ones, and Costs, that something changes there.
func randomJudged(r *rand.Rand) judged {
	c := randomConf(r)
	n, m := c.Window, c.Window
	if r.IntN(8) == 0 {
		n = max(0, near(r, n))
	}
	if r.IntN(8) == 0 {
		m = max(0, near(r, m))
	}
	x := judged{c, randomRow(r, n), spread(r, m, between(r, 0, int64(m)*mostFix), into(0, m, near(r, c.Ceil)))}
	if r.IntN(8) > 0 {
		cost := into(0, int64(n)*mostFix, near(r, saysCost(x.other)+c.Margin))
		x.live = spread(r, n, cost, r.IntN(n+1))
	}
	return x
}
