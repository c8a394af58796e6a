package track_test

import (
	"math"
	"testing"

	"governor/track"
)

// row is one call, and what it answers.
type row struct {
	target int64
	cur    int
	util   int64
	want   int
}

func rows(t *testing.T, l []row) {
	t.Helper()
	for _, c := range l {
		if got := track.Want(c.target, c.cur, c.util); got != c.want {
			t.Error(told(got, c.want, c.target, c.cur, c.util))
		}
	}
}

// P10.1, J1: ordinary numbers, the chapter's example first.
func TestWant(t *testing.T) {
	rows(t, []row{
		{600, 4, 900, 6}, {500, 4, 900, 8}, {900, 4, 900, 4}, {900, 4, 600, 3}, {700, 10, 350, 5}, {500, 3, 2000, 12},
		{1000, 7, 1000, 7}, {1000, 7, 500, 4}, {1000, 7, 1500, 11}, {600, 1, 900, 2}, {600, 100, 900, 150}, {250, 40, 1000, 160},
	})
}

// P10.1, J1: a quotient that is whole, and one that is a part above it, or below it; a part that is less than a thousandth is cut off.
func TestWholeAndAPart(t *testing.T) {
	rows(t, []row{
		{600, 4, 899, 6}, {600, 4, 900, 6}, {600, 4, 901, 7},
		{1000, 1, 999, 1}, {1000, 1, 1000, 1}, {1000, 1, 1001, 2}, {1000, 1, 1, 1}, {1000, 1, 2000, 2}, {1000, 1, 2001, 3},
		{1001, 1, 1, 0}, {1001, 1, 2, 1}, {2000, 1, 1, 0}, {2000, 1, 2, 1}, {2000, 2, 1, 1}, {999, 1, 1, 1},
		// 1000 replicas of load 1 are a part of 10^6, which is one thousandth, and of 10^6 and 1 it is none.
		{1000000, 1000, 1, 1}, {1000001, 1000, 1, 0}, {1000000, 999, 1, 0}, {1000000, 1, 1000, 1}, {1000000, 1, 999, 0},
		{1000000, 1, 1000000, 1}, {1000000, 1, 1000999, 1}, {1000000, 1, 1001000, 2}, {1000000, 1, 999999, 1},
		{3, 1, 1, 1}, {3, 1, 3, 1}, {3, 1, 4, 2}, {3, 3, 1, 1}, {3, 2, 3, 2}, {3000, 1, 9002, 3}, {3000, 1, 9003, 4},
	})
}

// P10.1, J1: no replicas want none, and a load of 0, or below it, wants none.
func TestNothing(t *testing.T) {
	for _, n := range edges() {
		want(t, n, 0, 900, 0)
		want(t, n, -1, 900, 0)
		want(t, n, math.MinInt, math.MaxInt64, 0)
		want(t, n, 1000, 0, 0)
		want(t, n, 7, -5, 0)
		want(t, n, math.MaxInt, math.MinInt64, 0)
		want(t, 600, 0, n, 0)
		want(t, 600, int(n), 0, 0)
		want(t, 600, int(n), -1, 0)
	}
}

// P10.1, J1: a target below 1 is taken as 1.
func TestTargetBelow(t *testing.T) {
	for _, target := range []int64{1, 0, -1, -2, -999, -1000, -1001, -mostFix, -mostFix - 1, math.MinInt64 + 1, math.MinInt64} {
		rows(t, []row{{target, 2, 3, 6}, {target, 1, 1, 1}, {target, 1, 999, 999}, {target, 1, 1000, 1000}, {target, 1, 1001, 1000}, {target, 0, 5, 0}, {target, 5, 0, 0}})
	}
	rows(t, []row{{2, 2, 3, 3}, {2, 1, 999, 500}})
}

// P10.1, J1: a target beyond MaxFix is taken as that.
func TestTargetBeyond(t *testing.T) {
	rows(t, []row{{mostFix - 1, 1, mostFix - 1, 1}, {mostFix - 1, 1, mostFix, 1}, {mostFix - 1, 1, 1000000, 1}, {mostFix - 1, 1, 999999, 0}})
	for _, target := range []int64{mostFix, mostFix + 1, 2 * mostFix, 1000 * mostFix, 1 << 62, math.MaxInt64 - 1, math.MaxInt64} {
		rows(t, []row{{target, 1, mostFix, 1}, {target, 1, 1000000, 1}, {target, 1, 999999, 0}, {target, 1000, 1000, 1}, {target, 1000, 999, 0}, {target, 1000, mostFix, 1}})
	}
}

// P10.1, J1: replicas below 0 are taken as none, and those beyond MaxReplicas as that.
func TestReplicasBeyond(t *testing.T) {
	rows(t, []row{{500, 998, 500, 998}, {500, 999, 500, 999}, {1000, 999, 500, 500}, {1000, 998, 500, 499}, {2, 999, 1, 500}})
	for _, cur := range []int{1000, 1001, 1002, 2000, 1000000, mostFix, math.MaxInt32 + 1, 1 << 62, math.MaxInt - 1, math.MaxInt} {
		rows(t, []row{{500, cur, 500, 1000}, {1000, cur, 500, 500}, {1000, cur, 1, 1}, {3000, cur, 1000, 334}, {1000000, cur, 1, 1}, {1000001, cur, 1, 0}, {1000, cur, 0, 0}})
	}
	for _, cur := range []int{0, -1, -2, -999, -1000, -1001, -mostFix, math.MinInt + 1, math.MinInt} {
		rows(t, []row{{500, cur, 500, 0}, {1, cur, mostFix, 0}, {1000, cur, -500, 0}})
	}
}

// P10.1, J1: a load below 0 is taken as 0, and one beyond MaxFix as that.
func TestLoadBeyond(t *testing.T) {
	rows(t, []row{{mostFix, 1, mostFix - 1, 1}, {1000000, 1, 999000000, 999}, {1000000, 1, 999000999, 999}, {1000000, 1, 999001000, 1000}, {1000000, 1, mostFix - 1, 1000}, {999000999, 1, mostFix - 1, 1}})
	for _, util := range []int64{mostFix, mostFix + 1, 2 * mostFix, 1000 * mostFix, 1 << 62, math.MaxInt64 - 1, math.MaxInt64} {
		rows(t, []row{{mostFix, 1, util, 1}, {mostFix - 1, 1, util, 1}, {999000999, 1, util, 2}, {500000000, 1, util, 2}, {499999999, 1, util, 2}, {499750125, 1, util, 2}, {499750124, 1, util, 3}, {2000000, 1, util, 500}, {1, 1, util, 1000}, {1, 0, util, 0}})
	}
	for _, util := range []int64{0, -1, -2, -999, -1000, -1001, -mostFix, -mostFix - 1, math.MinInt64 + 1, math.MinInt64} {
		rows(t, []row{{1, 1000, util, 0}, {mostFix, 1, util, 0}, {0, 5, util, 0}})
	}
}

// P10.1, J1: all loads together come just to MaxFix, or one beyond it, and are MaxFix there.
func TestProductsAtTheBound(t *testing.T) {
	rows(t, []row{
		{mostFix, 1000, 1000000, 1}, {mostFix, 1000, 1000001, 1}, {mostFix, 1000, 999999, 1}, {mostFix, 2, 500000000, 1}, {mostFix, 2, 500000001, 1}, {mostFix, 2, mostFix, 1},
		{500000000, 2, 500000000, 2}, {500000000, 2, 500250000, 2}, {500000000, 3, 500000000, 2}, {1000000, 1000, 1000000, 1000}, {1000001, 1000, 1000001, 1000},
		{1000999, 1000, 1000999, 1000}, {1001000, 1000, 1001000, 999}, {1002000, 1000, 1002000, 999}, {2000000, 1000, 2000000, 500}, {2000000, 501, 2000000, 500}, {2000000, 500, 2000000, 500},
		{2000000, 499, 2000000, 499}, {333333333, 3, 333333333, 3}, {333333334, 3, 333333334, 3}, {400000000, 3, 400000000, 3}, {500000000, 1000, mostFix, 2},
		{mostFix, 5, mostFix, 1}, {1 << 62, 5, 1 << 62, 1}, {900000000, 1000, 900000000, 2}, {250000000, 7, 200000000, 4}, {250000000, 5, 200000000, 4}, {250000000, 4, 200000000, 4},
		// Of MaxFix a part of a thousandth is left behind a whole, and of one less it is not.
		{999000999, 1000, 1000000, 2}, {999000999, 1000, 1000001, 2}, {999000999, 1000, 999999, 1}, {999000999, 2, 500000000, 2}, {999000999, 2, 499999999, 1}, {999000999, 3, 333333333, 1}, {999000999, 3, 333333334, 2},
	})
}

// P10.1, J1: quotients that come just to MaxFix, and beyond it, are as many as there may be, and so are all of more than that many wholes.
func TestQuotientsAtTheBound(t *testing.T) {
	rows(t, []row{
		{1, 1000, 1000, 1000}, {1, 1000, 999, 1000}, {1, 1000, 1001, 1000}, {1, 1000, mostFix, 1000}, {1, 1, 1000000, 1000}, {1, 1, 1000001, 1000}, {1, 1, 999999, 1000},
		{2, 1000, 2000, 1000}, {2, 1000, 2001, 1000}, {1000, 1000, 1000000, 1000}, {999, 1000, 1000000, 1000}, {1001, 1000, 1000000, 1000},
	})
}

// P10.1, J1: answers of MaxReplicas less 1, of that, and of more, which are that.
func TestAnswersAtTheBound(t *testing.T) {
	rows(t, []row{
		{1, 1, 998, 998}, {1, 1, 999, 999}, {1, 1, 1000, 1000}, {1, 1, 1001, 1000}, {1, 1, 1002, 1000}, {1, 37, 27, 999}, {1, 8, 125, 1000}, {1, 7, 143, 1000},
		{1000, 1, 998000, 998}, {1000, 1, 998001, 999}, {1000, 1, 999000, 999}, {1000, 1, 999001, 1000}, {1000, 1, 1000000, 1000}, {1000, 1, 1000001, 1000},
		{500, 999, 500, 999}, {500, 999, 501, 1000}, {500, 500, 999, 999}, {500, 500, 1000, 1000}, {500, 500, 1001, 1000}, {500, 500, 1002, 1000}, {500, 1000, 501, 1000}, {500, 1000, 499, 998},
	})
}
