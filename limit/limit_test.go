package limit_test

import (
	"math"
	"testing"

	"governor/api"
	"governor/limit"
)

// P15.1, O1: the chapter's example, and other numbers that are wanted of the same replicas.
func TestExample(t *testing.T) {
	wantNext(t, call{conf(1, 20, 2, 3), never(4), 9, 5}, grown(6, 5))
	for want, n := range map[int]int{6: 6, 7: 6, 100: 6, 5: 5} {
		wantNext(t, call{conf(1, 20, 2, 3), never(4), want, 5}, grown(n, 5))
	}
	for want, n := range map[int]int{4: 4, 3: 3, 2: 2, 1: 2, 0: 2, -100: 2} {
		wantNext(t, call{conf(1, 20, 2, 3), never(4), want, 5}, never(n))
	}
}

// row is how many there are, how many are wanted, and how many there may be.
type row struct{ cur, want, n int }

// rows asks one configuration about replicas that never grew, whose time of a growth is no growth's.
func rows(t *testing.T, c api.Conf, l []row) {
	t.Helper()
	mayBe(t, c)
	for _, x := range l {
		after := api.Hold{Cur: x.n, Last: 9}
		if x.n > saysInto(c, never(x.cur)).Cur {
			after = grown(x.n, 11)
		}
		wantNext(t, call{c, api.Hold{Cur: x.cur, Last: 9}, x.want, 11}, after)
	}
}

// P15.1, O1: so many more, or fewer, as Rate: just that, one short of it and one beyond it.
func TestRate(t *testing.T) {
	rows(t, conf(1, 20, 4, 3), []row{
		{10, 13, 13}, {10, 14, 14}, {10, 15, 14}, {10, 20, 14}, {10, 21, 14}, {10, 1000, 14}, {10, math.MaxInt, 14},
		{10, 7, 7}, {10, 6, 6}, {10, 5, 6}, {10, 1, 6}, {10, 0, 6}, {10, -1, 6}, {10, math.MinInt, 6},
		{10, 9, 9}, {10, 10, 10}, {10, 11, 11},
	})
	rows(t, conf(1, mostRep, 1, 3), []row{
		{500, 500, 500}, {500, 501, 501}, {500, 502, 501}, {500, 499, 499}, {500, 498, 499}, {500, math.MaxInt, 501}, {500, math.MinInt, 499},
		{1, 2, 2}, {1, 3, 2}, {1, 1, 1}, {1, 0, 1}, {1000, 999, 999}, {1000, 998, 999}, {1000, 1000, 1000}, {1000, 1001, 1000},
	})
	rows(t, conf(1, mostRep, 999, 3), []row{{1, 999, 999}, {1, 1000, 1000}, {1, 1001, 1000}, {1000, 2, 2}, {1000, 1, 1}, {1000, 0, 1}, {500, 1, 1}, {500, 1000, 1000}})
	rows(t, conf(1, mostRep, mostRep, 3), []row{{1, 1000, 1000}, {1, 1001, 1000}, {1, math.MaxInt, 1000}, {1000, 1, 1}, {1000, 0, 1}, {1000, math.MinInt, 1}, {500, 1, 1}, {500, 1000, 1000}})
}

// P15.1, O1: from Min to Max, just these, one short of each and one beyond it, where Rate would allow more.
func TestMinAndMax(t *testing.T) {
	rows(t, conf(3, 9, 4, 3), []row{
		{6, 8, 8}, {6, 9, 9}, {6, 10, 9}, {6, 11, 9}, {6, math.MaxInt, 9}, {6, 4, 4}, {6, 3, 3}, {6, 2, 3}, {6, 1, 3}, {6, 0, 3}, {6, -1, 3}, {6, math.MinInt, 3},
		{5, 9, 9}, {5, 10, 9}, {7, 3, 3}, {7, 2, 3}, {4, 8, 8}, {4, 9, 8}, {8, 4, 4}, {8, 3, 4},
		{3, 3, 3}, {3, 2, 3}, {3, math.MinInt, 3}, {9, 9, 9}, {9, 10, 9}, {9, math.MaxInt, 9}, {3, 9, 7}, {9, 3, 5},
	})
	rows(t, conf(7, 7, 4, 3), []row{{7, 7, 7}, {7, 6, 7}, {7, 8, 7}, {7, 0, 7}, {7, math.MinInt, 7}, {7, math.MaxInt, 7}, {6, 6, 7}, {8, 8, 7}})
	rows(t, conf(1, 1, 1, 0), []row{{1, 1, 1}, {1, 0, 1}, {1, 2, 1}, {0, -1, 1}, {2, 1000, 1}})
	rows(t, conf(mostRep, mostRep, mostRep, 0), []row{{1000, 1000, 1000}, {1000, 999, 1000}, {1000, 0, 1000}, {1000, 1001, 1000}, {0, 0, 1000}, {1001, 5, 1000}})
}

// P15.1, O1: replicas that are not within bounds are taken into these ahead of all else: how many more, or fewer, there may be is counted from there, and so is whether they grew.
func TestReplicasBeyond(t *testing.T) {
	c := conf(5, 20, 4, 3)
	for _, cur := range []int{math.MinInt, math.MinInt + 1, math.MinInt + 3, math.MinInt + 4, -1000, -1, 0, 1, 4, 5} {
		rows(t, c, []row{{cur, 4, 5}, {cur, 5, 5}, {cur, 6, 6}, {cur, 8, 8}, {cur, 9, 9}, {cur, 10, 9}, {cur, math.MaxInt, 9}, {cur, 0, 5}, {cur, math.MinInt, 5}})
	}
	for _, cur := range []int{20, 21, 24, 25, 1000, 1001, math.MaxInt - 4, math.MaxInt - 3, math.MaxInt - 1, math.MaxInt} {
		rows(t, c, []row{{cur, 21, 20}, {cur, 20, 20}, {cur, 19, 19}, {cur, 17, 17}, {cur, 16, 16}, {cur, 15, 16}, {cur, math.MinInt, 16}, {cur, 1000, 20}, {cur, math.MaxInt, 20}})
	}
	rows(t, c, []row{{6, 6, 6}, {6, 5, 5}, {6, 4, 5}, {6, 10, 10}, {6, 11, 10}, {19, 20, 20}, {19, 21, 20}, {19, 15, 15}, {19, 14, 15}})
}

// P15.1, O1: behind a growth nothing shrinks at a time one short of Stable, at just Stable it does; who never grew shrinks at all times.
func TestStable(t *testing.T) {
	for _, stable := range []int64{0, 1, 2, 3, 1000, mostTime - 1, mostTime} {
		c := conf(1, 20, 4, stable)
		mayBe(t, c)
		for _, at := range times(stable) {
			for want, n := range map[int]int{8: 8, 7: 7, 4: 4, 3: 4, 1: 4, 0: 4, -9: 4, math.MinInt: 4} {
				h := grown(8, at.last)
				after := api.Hold{Cur: n, Last: at.last, Grew: true}
				if at.now < at.last+stable {
					after = h
				}
				wantNext(t, call{c, h, want, at.now}, after)
				wantNext(t, call{c, api.Hold{Cur: 8, Last: at.last}, want, at.now}, api.Hold{Cur: n, Last: at.last})
			}
		}
	}
}

// P15.1, O1: the times beside Stable, written out, and those ahead of the last growth.
func TestBesideStable(t *testing.T) {
	c := conf(1, 20, 4, 3)
	for now, n := range map[int64]int{0: 8, 1: 8, 9: 8, 10: 8, 11: 8, 12: 8, 13: 5, 14: 5, 1000: 5, mostTime: 5} {
		wantNext(t, call{c, grown(8, 10), 5, now}, grown(n, 10))
		wantNext(t, call{c, api.Hold{Cur: 8, Last: 10}, 5, now}, api.Hold{Cur: 5, Last: 10})
	}
	c.Stable = 0
	for now, n := range map[int64]int{0: 8, 9: 8, 10: 5, 11: 5, mostTime: 5} {
		wantNext(t, call{c, grown(8, 10), 5, now}, grown(n, 10))
	}
	c.Stable = mostTime
	for now, n := range map[int64]int{0: 8, 10: 8, mostTime - 1: 8, mostTime: 5} {
		wantNext(t, call{c, grown(8, 0), 5, now}, grown(n, 0))
		wantNext(t, call{c, grown(8, 1), 5, now}, grown(8, 1))
	}
}

// P15.1, O1: within Stable there may be more, all the same, up to Rate and Max; and the time of that growth is another one.
func TestGrowthBehindGrowth(t *testing.T) {
	c := conf(1, 20, 4, 3)
	for _, now := range []int64{0, 9, 10, 11, 12, 13, mostTime} {
		for want, n := range map[int]int{9: 9, 11: 11, 12: 12, 13: 12, 99: 12, math.MaxInt: 12} {
			wantNext(t, call{c, grown(8, 10), want, now}, grown(n, now))
			wantNext(t, call{c, api.Hold{Cur: 8, Last: 10}, want, now}, grown(n, now))
		}
		wantNext(t, call{c, grown(18, 10), 99, now}, grown(20, now))
		wantNext(t, call{c, grown(8, 10), 8, now}, grown(8, 10))
	}
}

// P15.1, O1: within Stable those that are beyond Max are as many as Max all the same, and those below Min as many as Min, which is no growth.
func TestStableBeyondBounds(t *testing.T) {
	c := conf(5, 20, 4, 3)
	for _, now := range []int64{0, 10, 12} {
		for _, cur := range []int{20, 21, 99, math.MaxInt} {
			for _, want := range []int{math.MinInt, 0, 15, 16, 19, 20, 21, 99, math.MaxInt} {
				wantNext(t, call{c, grown(cur, 10), want, now}, grown(20, 10))
			}
		}
		for _, cur := range []int{5, 4, 0, -1, math.MinInt} {
			for _, want := range []int{math.MinInt, 0, 4, 5} {
				wantNext(t, call{c, grown(cur, 10), want, now}, grown(5, 10))
			}
			wantNext(t, call{c, grown(cur, 10), 6, now}, grown(6, now))
		}
	}
}

// P15.1, O1: a growth alone sets the time and that there was one, at any time that may be, also at the one that stands there already; to shrink and to stay leave both.
func TestWhatAGrowthSets(t *testing.T) {
	c := conf(1, 20, 4, 0)
	for _, last := range []int64{0, 1, 10, mostTime - 1, mostTime} {
		for _, now := range []int64{last, mostTime} {
			for _, grew := range []bool{false, true} {
				h := api.Hold{Cur: 8, Last: last, Grew: grew}
				wantNext(t, call{c, h, 9, now}, grown(9, now))
				wantNext(t, call{c, h, 99, now}, grown(12, now))
				wantNext(t, call{c, h, 8, now}, h)
				wantNext(t, call{c, h, 7, now}, api.Hold{Cur: 7, Last: last, Grew: grew})
				wantNext(t, call{c, h, 0, now}, api.Hold{Cur: 4, Last: last, Grew: grew})
			}
		}
	}
}

// moment is how many are wanted at a time, and what is held then.
type moment struct {
	want int
	now  int64
	h    api.Hold
}

// inARow asks one by one, each of what the one ahead held.
func inARow(t *testing.T, c api.Conf, h api.Hold, l []moment) {
	t.Helper()
	mayBe(t, c)
	for _, x := range l {
		wantNext(t, call{c, h, x.want, x.now}, x.h)
		h = limit.Next(c, h, x.want, x.now)
	}
}

// P15.1, O1: one by one, at times that rise.
func TestInARow(t *testing.T) {
	inARow(t, conf(2, 12, 3, 4), api.Hold{}, []moment{
		{0, 0, never(2)}, {1, 1, never(2)}, {9, 2, grown(5, 2)}, {9, 3, grown(8, 3)}, {9, 4, grown(9, 4)}, {9, 5, grown(9, 4)},
		{1, 6, grown(9, 4)}, {1, 7, grown(9, 4)}, {1, 8, grown(6, 4)}, {1, 9, grown(3, 4)}, {1, 10, grown(2, 4)}, {1, 11, grown(2, 4)},
		{99, 12, grown(5, 12)}, {99, 14, grown(8, 14)}, {99, 20, grown(11, 20)}, {99, 21, grown(12, 21)}, {99, 22, grown(12, 21)},
		{10, 24, grown(12, 21)}, {13, 24, grown(12, 21)}, {10, 25, grown(10, 21)}, {11, 26, grown(11, 26)}, {2, 29, grown(11, 26)}, {2, 30, grown(8, 26)},
	})
}

// P15.1, O1: so it is at times that stand, where nothing shrinks any more behind a growth, unless Stable is 0.
func TestInARowAtOneTime(t *testing.T) {
	inARow(t, conf(2, 12, 3, 1), never(9), []moment{
		{4, 7, never(6)}, {4, 7, never(4)}, {6, 7, grown(6, 7)}, {4, 7, grown(6, 7)}, {99, 7, grown(9, 7)}, {99, 7, grown(12, 7)}, {99, 7, grown(12, 7)}, {4, 7, grown(12, 7)}, {4, 8, grown(9, 7)}, {4, 8, grown(6, 7)},
	})
	inARow(t, conf(2, 12, 3, 0), never(9), []moment{
		{4, 7, never(6)}, {6, 7, never(6)}, {7, 7, grown(7, 7)}, {4, 7, grown(4, 7)}, {0, 7, grown(2, 7)}, {99, 7, grown(5, 7)}, {5, 7, grown(5, 7)},
	})
}

// P15.1, O1: so it is where the configuration is another one on the way.
func TestInARowByManyConfigurations(t *testing.T) {
	h := api.Hold{}
	for _, x := range []struct {
		c api.Conf
		moment
	}{
		{conf(2, 12, 3, 4), moment{9, 1, grown(5, 1)}},
		{conf(8, 12, 3, 4), moment{9, 2, grown(9, 2)}},
		{conf(1, 6, 3, 4), moment{1, 3, grown(6, 2)}},
		{conf(1, 6, 3, 1), moment{1, 3, grown(3, 2)}},
		{conf(5, 6, 3, 1), moment{1, 4, grown(5, 2)}},
		{conf(5, 90, 80, 9), moment{99, 4, grown(85, 4)}},
		{conf(5, 90, 80, 9), moment{0, 12, grown(85, 4)}},
		{conf(5, 90, 70, 8), moment{0, 12, grown(15, 4)}},
	} {
		wantNext(t, call{x.c, h, x.want, x.now}, x.h)
		h = limit.Next(x.c, h, x.want, x.now)
	}
}

// P15.1, O1: Into takes Cur to the nearest one that there may be, and leaves all else.
func TestInto(t *testing.T) {
	for _, x := range []struct {
		c    api.Conf
		curs map[int]int
	}{
		{conf(5, 20, 4, 3), map[int]int{math.MinInt: 5, math.MinInt + 1: 5, -1: 5, 0: 5, 1: 5, 4: 5, 5: 5, 6: 6, 12: 12, 19: 19, 20: 20, 21: 20, 1000: 20, math.MaxInt - 1: 20, math.MaxInt: 20}},
		{conf(7, 7, 4, 3), map[int]int{math.MinInt: 7, 0: 7, 6: 7, 7: 7, 8: 7, math.MaxInt: 7}},
		{conf(1, mostRep, 1, mostTime), map[int]int{math.MinInt: 1, 0: 1, 1: 1, 2: 2, 999: 999, 1000: 1000, 1001: 1000, math.MaxInt: 1000}},
		{conf(mostRep, mostRep, 1, 0), map[int]int{math.MinInt: 1000, 0: 1000, 999: 1000, 1000: 1000, 1001: 1000}},
		{conf(1, 1, mostRep, 0), map[int]int{-1: 1, 0: 1, 1: 1, 2: 1, 1000: 1}},
	} {
		mayBe(t, x.c)
		for cur, want := range x.curs {
			for _, last := range []int64{0, 1, 3, mostTime} {
				wantInto(t, x.c, grown(cur, last), grown(want, last))
				wantInto(t, x.c, api.Hold{Cur: cur, Last: last}, api.Hold{Cur: want, Last: last})
			}
		}
	}
}

// P1: configurations that may not be, and times that may not be, end, too, and do not panic; of what they answer nothing is said.
func TestWhatMayNotBe(t *testing.T) {
	numbers := []int{math.MinInt, math.MinInt + 1, -mostRep - 1, -1, 0, 1, 4, mostRep + 1, math.MaxInt - 1, math.MaxInt}
	for _, least := range numbers {
		for _, most := range numbers {
			for _, rate := range numbers {
				for _, n := range numbers {
					c := conf(least, most, rate, int64(n))
					for _, cur := range numbers {
						limit.Into(c, grown(cur, int64(n)))
						for _, now := range numbers {
							limit.Next(c, grown(cur, int64(now)), n, int64(rate))
							limit.Next(conf(1, 20, 4, 3), grown(cur, int64(n)), rate, int64(now))
							limit.Next(c, never(cur), now, 5)
						}
					}
				}
			}
		}
	}
	limit.Next(api.Conf{}, api.Hold{}, 9, 9)
	limit.Into(api.Conf{}, grown(9, 9))
}
