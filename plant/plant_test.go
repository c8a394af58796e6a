package plant_test

import (
	"math"
	"testing"

	"governor/api"
	"governor/plant"
)

// P16.1, Q2: the chapter's example, and what comes beside it.
func TestExample(t *testing.T) {
	c := conf(100, 1, 50)
	wantStep(t, call{c, of(2), 2, 250}, api.Plant{Ready: 2, Wait: 50, Util: 1250}, api.Mark{Cost: 2})
	for demand, next := range map[int64]api.Plant{
		0:   {Ready: 2},
		1:   {Ready: 2, Util: 5},
		100: {Ready: 2, Util: 500},
		199: {Ready: 2, Util: 995},
		200: {Ready: 2, Util: 1000},
		201: {Ready: 2, Wait: 1, Util: 1005},
	} {
		wantStep(t, call{c, of(2), 2, demand}, next, api.Mark{Cost: 2})
	}
}

// P16.1, Q1: as many as there may be, all ready, and nothing else.
func TestNew(t *testing.T) {
	for n, ready := range map[int]int{
		math.MinInt: 0, math.MinInt + 1: 0, -1000: 0, -2: 0, -1: 0, 0: 0, 1: 1, 2: 2, 7: 7, 500: 500, 999: 999,
		1000: 1000, 1001: 1000, 1002: 1000, 1 << 31: 1000, 1 << 32: 1000, math.MaxInt - 1: 1000, math.MaxInt: 1000,
	} {
		wantNew(t, n, ready)
	}
	for n := range mostRep {
		wantNew(t, n, n)
		wantAll(t, plant.New(n), n)
	}
}

// P16.1, Q1: those that are ready, and those at each place of Start, and nothing else of a plant.
func TestAll(t *testing.T) {
	for n, p := range map[int]api.Plant{
		0:    {},
		1:    of(1),
		2:    of(0, 2),
		3:    of(1, 2),
		4:    {Start: []int{0, 0, 4}, Wait: 9, Util: 90},
		8:    of(0, 1, 1, 1, 1, 1, 1, 1, 1),
		45:   of(9, 1, 2, 3, 4, 5, 6, 7, 8),
		6:    of(5, 0, 0, 0, 0, 0, 0, 0, 1),
		7:    of(5, 2, 0, 0, 0, 0, 0, 0, 0),
		1000: of(0, 125, 125, 125, 125, 125, 125, 125, 125),
		999:  {Ready: 999, Wait: mostFix, Util: mostFix},
	} {
		wantAll(t, p, n)
	}
	wantAll(t, of(mostRep), mostRep)
	wantAll(t, of(0, mostRep), mostRep)
	wantAll(t, of(5, 0, 0, 0, 0, 0, 0, 0, 995), mostRep)
}

// row is a plant, how many are wanted, and the plant of the next tick.
type row struct {
	p    api.Plant
	want int
	next api.Plant
}

// rows asks by one delay, where nothing comes.
func rows(t *testing.T, delay int, l []row) {
	t.Helper()
	for _, x := range l {
		asked := call{conf(100, delay, 50), x.p, x.want, 0}
		mayBe(t, asked)
		wantStep(t, asked, x.next, api.Mark{Cost: int64(plant.All(x.next))})
	}
}

// P16.1, Q2: the first of Start is ready, and the others are one place further ahead; noughts at the end are left out.
func TestFurther(t *testing.T) {
	for _, delay := range []int{0, 1, 3, mostDelay} {
		rows(t, delay, []row{
			{of(0), 0, of(0)}, {of(5), 5, of(5)}, {of(5, 2), 7, of(7)}, {of(0, 2), 2, of(2)},
			{of(5, 2, 3), 10, of(7, 3)}, {of(5, 0, 3), 8, of(5, 3)}, {of(5, 2, 0, 3), 10, of(7, 0, 3)}, {of(5, 2, 3, 0), 10, of(7, 3)},
			{of(5, 0), 5, of(5)}, {of(5, 0, 0, 0), 5, of(5)}, {of(5, 2, 0, 0), 7, of(7)}, {of(5, 0, 0, 3, 0, 0), 8, of(5, 0, 3)},
			{of(5, 1, 2, 3, 4, 5, 6, 7, 8), 41, of(6, 2, 3, 4, 5, 6, 7, 8)}, {of(5, 0, 0, 0, 0, 0, 0, 0, 8), 13, of(5, 0, 0, 0, 0, 0, 0, 8)},
			{of(0, 0, 0, 0, 0, 0, 0, 0, 0), 0, of(0)}, {of(0, 1000), 1000, of(1000)}, {of(999, 1), 1000, of(1000)},
		})
	}
}

// P16.1, Q2: more begin: ready at once by the delay 0, else at the place of the delay, behind what stands further ahead.
func TestMoreBegin(t *testing.T) {
	rows(t, 0, []row{{of(0), 1, of(1)}, {of(2), 5, of(5)}, {of(2, 3), 6, of(6)}, {of(2, 3, 4), 10, of(6, 4)}, {of(0), 1000, of(1000)}, {of(2, 0, 0, 4), 7, of(3, 0, 4)}})
	rows(t, 1, []row{{of(0), 1, of(0, 1)}, {of(2), 5, of(2, 3)}, {of(2, 3), 6, of(5, 1)}, {of(2, 3, 4), 10, of(5, 5)}, {of(0), 1000, of(0, 1000)}, {of(2, 0, 0, 4), 7, of(2, 1, 4)}})
	rows(t, 2, []row{{of(0), 1, of(0, 0, 1)}, {of(2), 5, of(2, 0, 3)}, {of(2, 3), 6, of(5, 0, 1)}, {of(2, 3, 4), 10, of(5, 4, 1)}, {of(2, 3, 4, 5), 20, of(5, 4, 11)}, {of(2, 3, 4, 5, 6), 21, of(5, 4, 6, 6)}})
	rows(t, 8, []row{
		{of(0), 1, of(0, 0, 0, 0, 0, 0, 0, 0, 1)}, {of(2, 3), 6, of(5, 0, 0, 0, 0, 0, 0, 0, 1)}, {of(2, 3, 4, 5), 20, of(5, 4, 5, 0, 0, 0, 0, 0, 6)},
		{of(1, 1, 1, 1, 1, 1, 1, 1, 1), 10, of(2, 1, 1, 1, 1, 1, 1, 1, 1)}, {of(0), 1000, of(0, 0, 0, 0, 0, 0, 0, 0, 1000)}, {of(2, 0, 0, 0), 3, of(2, 0, 0, 0, 0, 0, 0, 0, 1)},
	})
	rows(t, 3, []row{{of(1, 1, 1, 1, 1, 1, 1, 1, 1), 12, of(2, 1, 1, 4, 1, 1, 1, 1)}, {of(1, 0, 0, 0, 0, 2), 4, of(1, 0, 0, 1, 2)}, {of(1, 0, 0, 0, 2), 4, of(1, 0, 0, 3)}, {of(1, 0, 0, 2), 4, of(1, 0, 2, 1)}})
}

// P16.1, Q2: fewer: they go from the last place on, whatever the delay is: a part of it, just all of it, several, all that begin, and then those that are ready.
func TestFewerGo(t *testing.T) {
	p := of(5, 1, 2, 3, 4)
	for _, delay := range []int{0, 1, 3, mostDelay} {
		rows(t, delay, []row{
			{p, 15, of(6, 2, 3, 4)}, {p, 14, of(6, 2, 3, 3)}, {p, 12, of(6, 2, 3, 1)}, {p, 11, of(6, 2, 3)}, {p, 10, of(6, 2, 2)}, {p, 9, of(6, 2, 1)}, {p, 8, of(6, 2)},
			{p, 7, of(6, 1)}, {p, 6, of(6)}, {p, 5, of(5)}, {p, 4, of(4)}, {p, 1, of(1)}, {p, 0, of(0)}, {p, -1, of(0)}, {p, math.MinInt, of(0)},
			{of(5, 1, 0, 0, 4), 9, of(6, 0, 0, 3)}, {of(5, 1, 0, 0, 4), 6, of(6)}, {of(5, 1, 2, 0, 0, 4), 7, of(6, 1)}, {of(5, 1, 2, 0, 0), 7, of(6, 1)}, {of(5, 1, 2, 0, 0), 6, of(6)},
			{of(0, 0, 3), 2, of(0, 2)}, {of(0, 3), 2, of(2)}, {of(0, 3), 0, of(0)}, {of(3), 2, of(2)}, {of(1000), 999, of(999)}, {of(0, 0, 1000), 1, of(0, 1)}, {of(1000), 0, of(0)},
			{of(1, 1, 1, 1, 1, 1, 1, 1, 1), 8, of(2, 1, 1, 1, 1, 1, 1)}, {of(1, 1, 1, 1, 1, 1, 1, 1, 1), 3, of(2, 1)}, {of(1, 1, 1, 1, 1, 1, 1, 1, 1), 1, of(1)},
		})
	}
}

// P16.1, Q2: how many are wanted is taken as 0, if it is below, and as 1000, if it is above.
func TestWantedBeyond(t *testing.T) {
	for _, want := range []int{math.MinInt, math.MinInt + 1, math.MinInt + 8, -1000, -1, 0} {
		rows(t, 1, []row{{of(0), want, of(0)}, {of(7), want, of(0)}, {of(2, 3, 2), want, of(0)}, {of(0, 0, 1000), want, of(0)}})
	}
	for _, want := range []int{1000, 1001, 1 << 31, 1 << 32, math.MaxInt - 1000, math.MaxInt - 1, math.MaxInt} {
		rows(t, 1, []row{{of(0), want, of(0, 1000)}, {of(7), want, of(7, 993)}, {of(2, 3, 2), want, of(5, 995)}, {of(0, 0, 1000), want, of(0, 1000)}, {of(1000), want, of(1000)}})
		rows(t, 0, []row{{of(0), want, of(1000)}, {of(2, 3, 2), want, of(998, 2)}})
	}
	rows(t, 1, []row{{of(7), 999, of(7, 992)}, {of(1000), 999, of(999)}, {of(7), 1, of(1)}})
}

// load is what waits, what comes, and what waits then, with the load, and whether that is too much.
type load struct {
	wait, demand int64
	left, util   int64
	bad          bool
}

// loads asks by one configuration of so many that are ready, and stay.
func loads(t *testing.T, c api.Conf, ready int, l []load) {
	t.Helper()
	for _, x := range l {
		asked := call{c, api.Plant{Ready: ready, Wait: x.wait, Util: 7}, ready, x.demand}
		mayBe(t, asked)
		wantStep(t, asked, api.Plant{Ready: ready, Wait: x.left, Util: x.util}, api.Mark{Cost: int64(ready), Bad: x.bad})
	}
}

// P16.1, Q2: what comes, and what waits, is done as far as it can be: just as much, one less and one more.
func TestWhatComes(t *testing.T) {
	loads(t, conf(100, 1, 50), 4, []load{
		{0, 0, 0, 0, false}, {0, 1, 0, 2, false}, {0, 399, 0, 997, false}, {0, 400, 0, 1000, false}, {0, 401, 1, 1002, false},
		{399, 0, 0, 997, false}, {400, 0, 0, 1000, false}, {401, 0, 1, 1002, false}, {100, 299, 0, 997, false}, {100, 300, 0, 1000, false}, {100, 301, 1, 1002, false},
		{0, mostDemand - 1, 999599, 2499997, true}, {0, mostDemand, 999600, 2500000, true},
	})
	loads(t, conf(1, 8, 0), 1, []load{{0, 0, 0, 0, false}, {0, 1, 0, 1000, false}, {0, 2, 1, 2000, true}, {1, 0, 0, 1000, false}, {1, 1, 1, 2000, true}, {2, 0, 1, 2000, true}})
	loads(t, conf(mostDemand, 0, 0), 1, []load{{0, mostDemand, 0, 1000, false}, {1, mostDemand, 1, 1000, true}, {0, 999, 0, 0, false}, {0, 1000, 0, 1, false}, {1000, mostDemand, 1000, 1001, true}})
}

// P16.1, Q2: what comes is taken as 0, if it is below, and as 10^6, if it is above.
func TestWhatComesBeyond(t *testing.T) {
	for _, demand := range []int64{math.MinInt64, math.MinInt64 + 1, -mostFix, -mostDemand, -401, -1, 0} {
		loads(t, conf(100, 1, 50), 4, []load{{0, demand, 0, 0, false}, {401, demand, 1, 1002, false}, {mostFix, demand, mostFix - 400, mostFix, true}})
	}
	for _, demand := range []int64{mostDemand, mostDemand + 1, mostFix, mostFix + 1, 1 << 32, math.MaxInt64 - 1, math.MaxInt64} {
		loads(t, conf(100, 1, 50), 4, []load{{0, demand, 999600, 2500000, true}, {400, demand, mostDemand, 2501000, true}})
		loads(t, conf(mostDemand, 1, 50), 1, []load{{0, demand, 0, 1000, false}, {50, demand, 50, 1000, false}, {51, demand, 51, 1000, true}})
	}
}

// P16.1, Q2: what waits, and what comes, is at most MaxFix in all, ahead of what is done of it; so is what can be done, and the load.
func TestWaitAndUtilAtTheirBounds(t *testing.T) {
	loads(t, conf(1, 1, 50), 1, []load{
		{mostFix, 0, mostFix - 1, mostFix, true}, {mostFix - 1, 0, mostFix - 2, mostFix, true}, {mostFix - 1, 1, mostFix - 1, mostFix, true}, {mostFix - 1, 2, mostFix - 1, mostFix, true},
		{mostFix - mostDemand, mostDemand - 1, mostFix - 2, mostFix, true}, {mostFix - mostDemand, mostDemand, mostFix - 1, mostFix, true}, {mostFix, mostDemand, mostFix - 1, mostFix, true},
		{999999, 0, 999998, 999999000, true}, {mostDemand - 1, 1, 999999, mostFix, true}, {mostDemand, 1, mostDemand, mostFix, true},
	})
	loads(t, conf(mostDemand, 1, 50), mostRep, []load{
		{mostFix, 0, 0, 1000, false}, {mostFix, mostDemand, 0, 1000, false}, {mostFix - 1, 0, 0, 999, false}, {mostFix - 1, 1, 0, 1000, false}, {mostFix - 1, 2, 0, 1000, false}, {0, mostDemand, 0, 1, false}, {0, mostDemand - 1, 0, 0, false},
	})
	loads(t, conf(mostDemand, 1, 50), 999, []load{{mostFix, 0, mostDemand, 1001, true}, {mostFix - mostDemand, 0, 0, 1000, false}, {mostFix - mostDemand, 50, 50, 1000, false}, {mostFix - mostDemand, 51, 51, 1000, true}})
	loads(t, conf(999999, 1, 50), mostRep, []load{{mostFix, 0, 1000, 1000, true}, {mostFix, mostDemand, 1000, 1000, true}, {999999000, 0, 0, 1000, false}, {999999000, 1, 1, 1000, false}})
}

// P16.1, Q2: where nothing can be done, all waits, and the load is as great as may be, or 0, if there is nothing to do.
func TestNothingCanBeDone(t *testing.T) {
	loads(t, conf(100, 1, 50), 0, []load{
		{0, 0, 0, 0, false}, {0, -1, 0, 0, false}, {0, math.MinInt64, 0, 0, false}, {0, 1, 1, mostFix, false}, {1, 0, 1, mostFix, false}, {0, 50, 50, mostFix, false}, {50, 1, 51, mostFix, true},
		{0, mostDemand, mostDemand, mostFix, true}, {mostFix, 0, mostFix, mostFix, true}, {mostFix, mostDemand, mostFix, mostFix, true}, {mostFix - 1, 1, mostFix, mostFix, true}, {mostFix - 1, 2, mostFix, mostFix, true}, {mostFix - mostDemand, math.MaxInt64, mostFix, mostFix, true},
	})
	wantStep(t, call{conf(100, 1, 50), of(0), 3, 60}, api.Plant{Start: []int{3}, Wait: 60, Util: mostFix}, api.Mark{Cost: 3, Bad: true})
	wantStep(t, call{conf(100, 1, 50), of(0, 0, 3), 3, 60}, api.Plant{Start: []int{3}, Wait: 60, Util: mostFix}, api.Mark{Cost: 3, Bad: true})
	wantStep(t, call{conf(100, 1, 50), of(3), 0, 60}, api.Plant{Wait: 60, Util: mostFix}, api.Mark{Bad: true})
}

// P16.1, Q2: a mark is bad, if more waits than Slack; just as much is not.
func TestMark(t *testing.T) {
	for _, slack := range []int64{0, 1, 50, 1000, mostFix - 1, mostFix} {
		for _, left := range []int64{0, 1, slack - 1, slack, slack + 1, mostFix - 1, mostFix} {
			if left >= 0 && left <= mostFix {
				x := call{conf(100, 1, slack), api.Plant{Wait: left}, 0, 0}
				util := int64(mostFix)
				if left == 0 {
					util = 0
				}
				wantStep(t, x, api.Plant{Wait: left, Util: util}, api.Mark{Bad: left > slack})
			}
		}
	}
	loads(t, conf(100, 1, 50), 2, []load{{0, 250, 50, 1250, false}, {0, 251, 51, 1255, true}, {50, 200, 50, 1250, false}, {50, 201, 51, 1255, true}, {0, 249, 49, 1245, false}})
}

// P16.1, Q2: what it costs is all that there are, those that begin as those that are ready, behind what is wanted.
func TestCost(t *testing.T) {
	c := conf(100, 3, 50)
	wantStep(t, call{c, of(2, 1, 1), 9, 0}, of(3, 1, 0, 5), api.Mark{Cost: 9})
	wantStep(t, call{c, of(2, 1, 1), 1, 0}, of(1), api.Mark{Cost: 1})
	wantStep(t, call{c, of(2, 1, 1), -5, 0}, of(0), api.Mark{})
	wantStep(t, call{c, of(2, 1, 1), 5000, 0}, of(3, 1, 0, 996), api.Mark{Cost: 1000})
}

// P16.1, Q2: what begins does nothing, what is ready in this tick does already, and what goes does nothing any more.
func TestWhoDoesWhat(t *testing.T) {
	wantStep(t, call{conf(100, 1, 50), of(2, 1), 5, 500}, api.Plant{Ready: 3, Start: []int{2}, Wait: 200, Util: 1666}, api.Mark{Cost: 5, Bad: true})
	wantStep(t, call{conf(100, 0, 50), of(2, 1), 5, 500}, api.Plant{Ready: 5, Util: 1000}, api.Mark{Cost: 5})
	wantStep(t, call{conf(100, 1, 50), of(2, 1), 2, 250}, api.Plant{Ready: 2, Wait: 50, Util: 1250}, api.Mark{Cost: 2})
	wantStep(t, call{conf(100, 1, 50), of(2, 1, 1), 3, 300}, api.Plant{Ready: 3, Util: 1000}, api.Mark{Cost: 3})
}

// moment is how many are wanted, and how much comes, with what comes of it.
type moment struct {
	want   int
	demand int64
	next   api.Plant
	bad    bool
}

// inARow asks one by one, each of the plant that the one ahead told.
func inARow(t *testing.T, c api.Conf, p api.Plant, l []moment) {
	t.Helper()
	for _, x := range l {
		asked := call{c, p, x.want, x.demand}
		mayBe(t, asked)
		wantStep(t, asked, x.next, api.Mark{Cost: int64(plant.All(x.next)), Bad: x.bad})
		p, _ = asked.step()
	}
}

// P16.1, P16.3: a row of steps, with what is wanted up and down.
func TestInARow(t *testing.T) {
	inARow(t, conf(10, 2, 5), plant.New(1), []moment{
		{3, 10, api.Plant{Ready: 1, Start: []int{0, 2}, Util: 1000}, false},
		{4, 15, api.Plant{Ready: 1, Start: []int{2, 1}, Wait: 5, Util: 1500}, false},
		{4, 26, api.Plant{Ready: 3, Start: []int{1}, Wait: 1, Util: 1033}, false},
		{7, 50, api.Plant{Ready: 4, Start: []int{0, 3}, Wait: 11, Util: 1275}, true},
		{6, 30, api.Plant{Ready: 4, Start: []int{2}, Wait: 1, Util: 1025}, false},
		{8, 0, api.Plant{Ready: 6, Start: []int{0, 2}, Util: 16}, false},
		{5, 56, api.Plant{Ready: 5, Wait: 6, Util: 1120}, true},
		{6, 44, api.Plant{Ready: 5, Start: []int{0, 1}, Util: 1000}, false},
		{0, 1, api.Plant{Wait: 1, Util: mostFix}, false},
		{2, 0, api.Plant{Start: []int{0, 2}, Wait: 1, Util: mostFix}, false},
		{2, 5, api.Plant{Start: []int{2}, Wait: 6, Util: mostFix}, true},
		{2, 5, api.Plant{Ready: 2, Util: 550}, false},
	})
}

// P16.1, P16.3: so it is where all are ready at once, and where it takes one tick.
func TestInARowByOtherDelays(t *testing.T) {
	inARow(t, conf(10, 0, 5), api.Plant{}, []moment{
		{3, 40, api.Plant{Ready: 3, Wait: 10, Util: 1333}, true},
		{5, 40, api.Plant{Ready: 5, Util: 1000}, false},
		{1, 10, api.Plant{Ready: 1, Util: 1000}, false},
		{1000, mostDemand, api.Plant{Ready: 1000, Wait: 990000, Util: 100000}, true},
	})
	inARow(t, conf(10, 1, 5), api.Plant{}, []moment{
		{3, 4, api.Plant{Start: []int{3}, Wait: 4, Util: mostFix}, false},
		{5, 31, api.Plant{Ready: 3, Start: []int{2}, Wait: 5, Util: 1166}, false},
		{4, 40, api.Plant{Ready: 4, Wait: 5, Util: 1125}, false},
		{6, 35, api.Plant{Ready: 4, Start: []int{2}, Util: 1000}, false},
		{6, 60, api.Plant{Ready: 6, Util: 1000}, false},
	})
}

// P16.1, P16.3: so it is where the delay is another one on the way: who begins goes by the one that there is then.
func TestInARowByManyDelays(t *testing.T) {
	p := plant.New(1)
	for _, x := range []struct {
		delay, want int
		next        api.Plant
	}{
		{8, 3, of(1, 0, 0, 0, 0, 0, 0, 0, 2)},
		{3, 5, of(1, 0, 0, 2, 0, 0, 0, 2)},
		{1, 6, of(1, 1, 2, 0, 0, 0, 2)},
		{0, 9, of(5, 2, 0, 0, 0, 2)},
		{3, 10, of(7, 0, 0, 1, 2)},
		{2, 9, of(7, 0, 1, 1)},
		{2, 12, of(7, 1, 4)},
		{2, 7, of(7)},
		{8, 7, of(7)},
	} {
		asked := call{conf(100, x.delay, 50), p, x.want, 0}
		wantStep(t, asked, x.next, api.Mark{Cost: int64(x.want)})
		p, _ = asked.step()
	}
}

// P1: configurations and plants that may not be end, too, and do not panic; of what they answer nothing is said.
func TestWhatMayNotBe(t *testing.T) {
	numbers := []int{math.MinInt, math.MinInt + 1, -mostRep - 1, -1, 0, 1, 9, mostRep + 1, math.MaxInt - 1, math.MaxInt}
	for _, a := range numbers {
		for _, b := range numbers {
			for _, n := range numbers {
				odd := api.Plant{Ready: a, Start: []int{b, n, a, b, a, n, b, a, n, 1, b}, Wait: int64(n), Util: int64(b)}
				plant.All(odd)
				for _, want := range numbers {
					plant.Step(conf(int64(a), b, int64(n)), of(4, 3, 2), want, int64(b))
					plant.Step(conf(int64(b), n, int64(a)), odd, want, int64(a))
					plant.Step(conf(100, 1, 50), odd, want, int64(n))
					plant.Step(conf(100, mostDelay, 50), of(a, b), want, int64(n))
				}
			}
		}
	}
	plant.Step(api.Conf{}, api.Plant{}, 9, 9)
	plant.Step(conf(100, 9, 50), of(4, make([]int, mostRep)...), 9, 9)
}
