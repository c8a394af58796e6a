package score_test

import (
	"math/rand/v2"
	"slices"
	"sync"
	"testing"

	"governor/api"
	"governor/score"
)

// justThese is P17.2: behind so many marks as the window just these are told, whatever there was ahead; behind one fewer there is one from ahead still.
func justThese(t *testing.T, window int, ahead, l []api.Mark) {
	t.Helper()
	told := ahead
	for _, m := range l[:window-1] {
		told = score.Add(window, told, m)
	}
	if window > 1 && len(ahead) > 0 && !slices.Equal(told, append([]api.Mark{ahead[len(ahead)-1]}, l[:window-1]...)) {
		t.Errorf("onto %v with the window %d %d marks are %v", ahead, window, window-1, told)
	}
	if told = score.Add(window, told, l[window-1]); !slices.Equal(told, l) {
		t.Errorf("onto %v with the window %d the marks %v are %v", ahead, window, l, told)
	}
}

// P17.2: a window, of all small ones, of 32, 33 and 1000, onto rows of all lengths beside it.
func TestJustThese(t *testing.T) {
	for window := 1; window <= 40; window++ {
		for there := range 2*window + 2 {
			justThese(t, window, numbered(1, there), numbered(5001, 5000+window))
		}
		justThese(t, window, nil, numbered(5001, 5000+window))
	}
	for _, there := range []int{0, 1, 999, 1000, 1001, 3000} {
		justThese(t, 1000, numbered(1, there), numbered(5001, 6000))
	}
}

// P17.2: so it is with many at random.
func TestJustTheseAtRandom(t *testing.T) {
	r := rand.New(rand.NewPCG(17, 5))
	for range 5000 {
		window := between(r, 1, 50)
		justThese(t, window, randomRow(r, between(r, 0, 100)), randomRow(r, window))
	}
}

// P17.1, P17.2: marks that are added one by one, many times as many as the window: at each time there are the last ones.
func TestOneByOne(t *testing.T) {
	for _, window := range []int{1, 2, 3, 31, 32, 33, 1000} {
		all := numbered(1, 7*window+5)
		var l []api.Mark
		for i, m := range all {
			l = score.Add(window, l, m)
			if want := all[max(0, i+1-window) : i+1]; !slices.Equal(l, want) {
				t.Fatalf("with the window %d there are %v behind %d marks, not %v", window, l, i+1, want)
			}
		}
		wantCost(t, l, saysCost(all[len(all)-window:]))
		wantBad(t, l, saysBad(all[len(all)-window:]))
	}
}

// P17.1, P17.2: of no window nothing is told, however many are added, and of all windows everything is.
func TestOneByOneByOddWindows(t *testing.T) {
	for _, window := range odd() {
		all := numbered(1, 100)
		var l []api.Mark
		for i, m := range all {
			l = score.Add(window, l, m)
			if window < 1 && len(l) > 0 || window > 0 && !slices.Equal(l, all[:i+1]) {
				t.Fatalf("with the window %d there are %v behind %d marks", window, l, i+1)
			}
		}
	}
}

// notBoth is P17.3 of two rows: not both beat the other one, if there is a margin; if there is none, those alone both do that cost the same.
func notBoth(t *testing.T, x judged) {
	if x.better() && x.turned().better() && (x.c.Margin > 0 || saysCost(x.live) != saysCost(x.other)) {
		t.Helper()
		t.Errorf("%v holds both ways round", x)
	}
}

// P17.3: not both beat the other one, at all edges, and of all small rows.
func TestNotBoth(t *testing.T) {
	edges(func(x judged) { notBoth(t, x) })
	small(func(x judged) { notBoth(t, x) })
}

// P17.3: so it is with many at random, and where they cost nearly the same.
func TestNotBothAtRandom(t *testing.T) {
	r := rand.New(rand.NewPCG(17, 6))
	for range 50000 {
		x := randomJudged(r)
		mayBe(t, x)
		notBoth(t, x)
		n := x.c.Window
		cost := into(0, int64(n)*mostFix, near(r, saysCost(x.live)))
		x.other, x.c.Margin = spread(r, n, cost, 0), int64(r.IntN(3))
		mayBe(t, x)
		notBoth(t, x)
	}
}

// P17.3: where there is no margin, rows that cost the same both beat the other one.
func TestBothWithoutMargin(t *testing.T) {
	r := rand.New(rand.NewPCG(17, 7))
	for range 20000 {
		c := randomConf(r)
		c.Margin = 0
		n, few := c.Window, min(c.Ceil, c.Window)
		cost := between(r, 0, int64(n)*mostFix)
		x := judged{c, spread(r, n, cost, r.IntN(few+1)), spread(r, n, cost, r.IntN(few+1))}
		wantBetter(t, x, true)
		wantBetter(t, x.turned(), true)
	}
}

// P17.3: what is beaten is beaten by what costs less, too, of all small rows; as long as there are just Window marks, and not too many of these are bad, as R2 asks of whatever beats it.
func TestBeatenByLess(t *testing.T) {
	rows := smallRows(2)
	small(func(x judged) {
		if !x.better() {
			return
		}
		for _, cheap := range rows {
			if len(cheap) == x.c.Window && saysBad(cheap) <= x.c.Ceil && saysCost(cheap) <= saysCost(x.other) {
				wantBetter(t, judged{x.c, x.live, cheap}, true)
			}
		}
	})
}

// P17.3: so it is with many at random: what costs less beats it, and what costs more is beaten by it; a margin that is less, and a Ceil that is more, change nothing of that.
func TestBeatenByLessAtRandom(t *testing.T) {
	r := rand.New(rand.NewPCG(17, 8))
	beaten := 0
	for range 50000 {
		x := randomJudged(r)
		if !saysBetter(x) {
			continue
		}
		beaten++
		wantBetter(t, x, true)
		n, few := x.c.Window, min(x.c.Ceil, x.c.Window)
		less := spread(r, n, between(r, 0, saysCost(x.other)), r.IntN(few+1))
		wantBetter(t, judged{x.c, x.live, less}, true)
		more := spread(r, n, between(r, saysCost(x.live), int64(n)*mostFix), r.IntN(n+1))
		wantBetter(t, judged{x.c, more, x.other}, true)
		wantBetter(t, judged{x.c, more, less}, true)
		x.c.Margin = between(r, 0, x.c.Margin)
		x.c.Ceil = between(r, x.c.Ceil, mostWindow)
		wantBetter(t, x, true)
	}
	if beaten < 10000 {
		t.Errorf("there were %d that are beaten alone", beaten)
	}
}

// P17.3: what beats one that beats another one beats that, too, by as much as both margins.
func TestBeatenInARow(t *testing.T) {
	r := rand.New(rand.NewPCG(17, 9))
	for range 20000 {
		c := randomConf(r)
		c.Margin = between(r, 0, c.Margin/4)
		n, few := c.Window, min(c.Ceil, c.Window)
		cost := between(r, 0, int64(n)*mostFix-2*c.Margin)
		l := spread(r, n, cost+2*c.Margin, r.IntN(few+1))
		other := spread(r, n, cost+c.Margin, r.IntN(few+1))
		last := spread(r, n, cost, r.IntN(few+1))
		wantBetter(t, judged{c, l, other}, true)
		wantBetter(t, judged{c, other, last}, true)
		c.Margin *= 2
		wantBetter(t, judged{c, l, last}, true)
		c.Margin++
		wantBetter(t, judged{c, l, last}, false)
	}
}

// P17.1, R2: what is told hangs on Window, Margin and Ceil of a configuration, and on no other number of it; of live's marks on what they cost alone, and of no row on their order.
func TestOtherNumbers(t *testing.T) {
	r := rand.New(rand.NewPCG(17, 10))
	for range 50000 {
		x := randomJudged(r)
		want := x.better()
		other := judged{randomConf(r), slices.Clone(x.live), slices.Clone(x.other)}
		other.c.Window, other.c.Margin, other.c.Ceil = x.c.Window, x.c.Margin, x.c.Ceil
		for i := range other.live {
			other.live[i].Bad = r.IntN(2) == 0
		}
		r.Shuffle(len(other.live), func(i, j int) { other.live[i], other.live[j] = other.live[j], other.live[i] })
		r.Shuffle(len(other.other), func(i, j int) { other.other[i], other.other[j] = other.other[j], other.other[i] })
		wantBetter(t, other, want)
	}
}

// withRoom is a row with marks in the room behind its last one, and all of these with it.
func withRoom(l []api.Mark) (row, whole []api.Mark) {
	whole = append(slices.Clone(l), numbered(70001, 70040)...)
	return whole[:len(l)], whole
}

// P3: what is handed in stays as it was, and so does its spare room.
func TestWhatIsHandedInStays(t *testing.T) {
	r := rand.New(rand.NewPCG(17, 11))
	for range 20000 {
		x := randomJudged(r)
		l, whole := withRoom(x.live)
		other, beside := withRoom(x.other)
		kept, keptBeside := slices.Clone(whole), slices.Clone(beside)
		score.Add(between(r, -1, 100), l, randomMark(r))
		score.Add(near(r, len(l)), l, randomMark(r))
		score.Add(int(random(r)), l, randomMark(r))
		score.Cost(l)
		score.Bad(l)
		score.Better(x.c, l, other)
		if !slices.Equal(whole, kept) || !slices.Equal(beside, keptBeside) {
			t.Errorf("of %v there is %v, of %v %v", kept, whole, keptBeside, beside)
		}
	}
}

// P3: what is handed out is one's own, with its spare room: what is written there is seen neither in what was handed in nor in what another call told.
func TestWhatIsHandedOutIsOnesOwn(t *testing.T) {
	r := rand.New(rand.NewPCG(17, 12))
	for range 20000 {
		l, whole := withRoom(randomRow(r, between(r, 0, 40)))
		kept := slices.Clone(whole)
		window, m := near(r, len(l)), randomMark(r)
		if r.IntN(3) == 0 {
			window = between(r, 1, 50)
		}
		first, second := score.Add(window, l, m), score.Add(window, l, m)
		said := slices.Clone(first)
		overwrite(second)
		if !slices.Equal(whole, kept) || !slices.Equal(first, said) {
			t.Errorf("what Add of the window %d onto %v told is not its own", window, kept[:len(l)])
		}
		// Nor is anything kept of what was handed in, or out.
		overwrite(whole)
		if !slices.Equal(first, said) {
			t.Errorf("what Add of the window %d told of %v is not its own", window, kept[:len(l)])
		}
		wantAdd(t, window, kept[:len(l)], m, said)
	}
}

// P3: so it is of rows that are told of one another: two that are added onto one are two.
func TestTwoOntoOne(t *testing.T) {
	one, two := api.Mark{Cost: 501}, api.Mark{Cost: 502, Bad: true}
	for _, window := range []int{1, 2, 9, 32, 1000} {
		var l []api.Mark
		for n := range 100 {
			l = score.Add(window, l, api.Mark{Cost: int64(n)})
			kept := slices.Clone(l)
			a, b := score.Add(window, l, one), score.Add(window, l, two)
			if !slices.Equal(a, saysAdd(window, kept, one)) || !slices.Equal(b, saysAdd(window, kept, two)) || !slices.Equal(l, kept) {
				t.Fatalf("with the window %d there are %v and %v of %v", window, a, b, l)
			}
			overwrite(a)
			if !slices.Equal(l, kept) || !slices.Equal(b, saysAdd(window, kept, two)) {
				t.Fatalf("with the window %d %v and %v share what they are of", window, b, l)
			}
		}
	}
}

// overwrite writes to all of a list, and to its spare room.
func overwrite(l []api.Mark) {
	all := l[:cap(l)]
	for i := range all {
		all[i] = api.Mark{Cost: 66666, Bad: !all[i].Bad}
	}
}

// P3: rows that share their marks are judged as those that do not.
func TestRowsThatShare(t *testing.T) {
	r := rand.New(rand.NewPCG(17, 13))
	for range 20000 {
		c := randomConf(r)
		c.Margin = between(r, 0, c.Margin>>r.IntN(30))
		all := randomRow(r, c.Window+r.IntN(c.Window+1))
		live, other := all[:c.Window], all[len(all)-c.Window:]
		want := saysBetter(judged{c, slices.Clone(live), slices.Clone(other)})
		wantBetter(t, judged{c, live, other}, want)
	}
}

// P3: what is answered hangs on the arguments, and not on the calls ahead.
func TestOnItsArgumentsAlone(t *testing.T) {
	r := rand.New(rand.NewPCG(17, 14))
	for range 20000 {
		x, ahead := randomJudged(r), randomJudged(r)
		window, m := between(r, 0, 50), randomMark(r)
		l, cost, bad, better := score.Add(window, x.live, m), score.Cost(x.live), score.Bad(x.live), x.better()
		score.Add(between(r, 0, 50), ahead.live, randomMark(r))
		score.Cost(ahead.other)
		score.Bad(ahead.other)
		ahead.better()
		wantAdd(t, window, x.live, m, l)
		wantCost(t, x.live, cost)
		wantBad(t, x.live, bad)
		wantBetter(t, x, better)
	}
}

// P3: so it is where many ask at a time, of one row.
func TestManyAtATime(t *testing.T) {
	shared, _ := withRoom(numbered(1, 32))
	var group sync.WaitGroup
	for i := range uint64(8) {
		group.Go(func() {
			r := rand.New(rand.NewPCG(17, 20+i))
			for range 2000 {
				x := randomJudged(r)
				judgedAsSaid(t, x)
				addedAsSaid(t, between(r, 0, 50), shared, randomMark(r))
				toldAsSaid(t, shared)
				x.live = shared
				judgedAsSaid(t, x)
			}
		})
	}
	group.Wait()
}
