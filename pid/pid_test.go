package pid_test

import (
	"cmp"
	"math"
	"testing"

	"governor/api"
	"governor/pid"
)

// P12.1, L1: the chapter's example, and what is carried on behind it.
func TestExample(t *testing.T) {
	wantNext(t, of(500, 5000, 0, 0), api.State{}, 900, behind(400, 400), 2)
}

// row is one load, what is carried on behind it, and how many are wanted.
type row struct {
	util int64
	next api.State
	want int
}

// inARow asks for loads one behind the other, each with what the one ahead carried on.
func inARow(t *testing.T, p api.Policy, s api.State, l []row) {
	t.Helper()
	for _, c := range l {
		wantNext(t, p, s, c.util, c.next, c.want)
		s, _ = pid.Next(p, s, c.util)
	}
}

// P12.1, L1: some loads in a row, with all three weights.
func TestInARow(t *testing.T) {
	inARow(t, of(500, 5000, 1000, 2000), api.State{}, []row{
		{900, behind(400, 400), 2},
		{700, behind(600, 200), 1},
		{100, behind(200, -400), -3},
		{500, behind(200, 0), 1},
		{500, behind(200, 0), 0},
		{0, behind(-300, -500), -4},
		{2500, behind(1700, 2000), 17},
	})
	inARow(t, of(500, 1000, 0, 0), api.State{}, []row{{999, behind(499, 499), 0}, {1000, behind(999, 500), 1}, {1999, behind(2498, 1499), 1}, {2000, behind(3998, 1500), 2}})
	inARow(t, of(500, 0, 1000, 0), api.State{}, []row{{900, behind(400, 400), 0}, {900, behind(800, 400), 1}, {500, behind(800, 0), 1}, {200, behind(500, -300), 1}, {499, behind(499, -1), 0}})
	inARow(t, of(500, 0, 0, 1000), api.State{}, []row{{1900, behind(1400, 1400), 0}, {2900, behind(3800, 2400), 1}, {2900, behind(6200, 2400), 0}, {400, behind(6100, -100), -3}})
}

// P12.1, L1: where there is no error ahead there is no change, whatever Prev is; the sum is gone on with, whatever Has is.
func TestNoneAhead(t *testing.T) {
	for _, prev := range append(beside(0, 400, -400, 9000), far()...) {
		for _, kd := range []int64{1, -1, 1000, mostFix, -mostFix, math.MaxInt64, math.MinInt64} {
			wantNext(t, of(500, 0, 0, kd), api.State{Prev: prev}, 900, behind(400, 400), 0)
			wantNext(t, of(500, 5000, 0, kd), api.State{Prev: prev}, 900, behind(400, 400), 2)
			wantNext(t, of(500, 5000, 2000, kd), api.State{Prev: prev, Sum: 2600}, 900, behind(3000, 400), 8)
			wantNext(t, of(500, 0, 0, kd), api.State{Prev: prev}, 500, behind(0, 0), 0)
		}
	}
	for _, c := range []struct {
		sum, next int64
		want      int
	}{
		{0, 400, 0}, {99, 499, 0}, {100, 500, 1}, {-400, 0, 0}, {-899, -499, 0}, {-900, -500, -1}, {1600, 2000, 2}, {mostFix, mostFix, 1000}, {-mostFix, 400 - mostFix, -1000},
		{math.MaxInt64, mostFix, 1000}, {math.MinInt64, 400 - mostFix, -1000},
	} {
		wantNext(t, of(500, 0, 1000, 0), api.State{Sum: c.sum}, 900, behind(c.next, 400), c.want)
	}
}

// P12.1, L1: where there is one ahead the change is the error less that, also where both are the same, and where that is 0.
func TestOneAhead(t *testing.T) {
	for _, c := range []struct {
		prev int64
		want int
	}{
		{400, 0}, {401, 0}, {399, 0}, {0, 2}, {200, 1}, {300, 1}, {301, 0}, {500, -1}, {499, 0}, {600, -1}, {800, -2}, {-400, 4}, {-9600, 50}, {10400, -50},
		{200400, -1000}, {200299, -999}, {200300, -1000}, {200500, -1000}, {-199600, 1000}, {-199500, 1000}, {-199499, 999},
		{mostFix, -1000}, {-mostFix, 1000}, {math.MaxInt64, -1000}, {math.MinInt64, 1000},
	} {
		wantNext(t, of(500, 0, 0, 5000), behind(0, c.prev), 900, behind(400, 400), c.want)
	}
}

// P12.1, L1: changes that come just to a bound of what fixed holds, one short of it, and beyond it: half of each stands in d, and i takes nearly all of that back, so that a part shows.
func TestChangesAtTheBounds(t *testing.T) {
	for _, c := range []struct {
		off, prev int64
		want      int
	}{
		{500000000, -499999998, 0}, {500000000, -499999999, 0}, {500000000, -500000000, 1}, {500000000, -500000001, 1}, {500000000, -500000002, 1}, {500000000, -mostFix, 1}, {500000000, math.MinInt64, 1},
		{mostFix, 2, 0}, {mostFix, 1, 0}, {mostFix, 0, 1}, {mostFix, -1, 1}, {mostFix, -mostFix, 1}, {mostFix, -mostFix - 1, 1}, {mostFix, math.MinInt64, 1}, {1, 1 - mostFix, 1}, {1, 2 - mostFix, 0}, {0, -mostFix, 1}, {0, math.MinInt64, 1}, {-1, -mostFix, 0},
	} {
		p, sum := of(0, 0, -1000, 500), int64(499999500)
		wantNext(t, p, behind(sum-c.off, c.prev), c.off, behind(sum, c.off), c.want)
		wantNext(t, p, behind(c.off-sum, turned(c.prev)), -c.off, behind(-sum, -c.off), -c.want)
	}
}

// P12.1, L1: errors of nothing, and of a part above it, and below it.
func TestErrorsBesideNothing(t *testing.T) {
	for _, target := range []int64{1, 2, 500, 1000, 123456789, mostFix - 2, 0, -1, -500, -mostFix + 2} {
		wantNext(t, of(target, mostFix, mostFix, mostFix), api.State{}, target, behind(0, 0), 0)
		wantNext(t, of(target, mostFix, mostFix, mostFix), behind(0, 0), target, behind(0, 0), 0)
		wantNext(t, of(target, 499999, 0, 0), api.State{}, target+1, behind(1, 1), 0)
		wantNext(t, of(target, 500000, 0, 0), api.State{}, target+1, behind(1, 1), 1)
		wantNext(t, of(target, 499999, 0, 0), api.State{}, target-1, behind(-1, -1), 0)
		wantNext(t, of(target, 500000, 0, 0), api.State{}, target-1, behind(-1, -1), -1)
		// What is less than a thousandth is cut off of each part, ahead of the sum.
		wantNext(t, of(target, 499999, 999, 999), behind(0, 0), target+1, behind(1, 1), 0)
		wantNext(t, of(target, 499999, 1000, 999), behind(0, 0), target+1, behind(1, 1), 1)
		wantNext(t, of(target, 499999, 999, 1000), behind(0, 0), target-1, behind(-1, -1), -1)
		wantNext(t, of(target, 499999, 999, 999), behind(0, 0), target-1, behind(-1, -1), 0)
	}
}

// P12.1, L1: errors that come just to a bound of what fixed holds, one short of it, and beyond it.
func TestErrorsAtTheBounds(t *testing.T) {
	for _, c := range []struct{ target, util, off int64 }{
		{1, mostFix, mostFix - 1}, {0, mostFix, mostFix}, {-1, mostFix, mostFix}, {-1, mostFix - 1, mostFix}, {-2, mostFix - 1, mostFix}, {0, mostFix - 1, mostFix - 1},
		{-mostFix, mostFix, mostFix}, {-mostFix, 0, mostFix}, {-mostFix, -1, mostFix - 1}, {-mostFix, 1, mostFix}, {-500000000, 500000000, mostFix}, {-500000000, 499999999, mostFix - 1}, {-500000001, 500000000, mostFix},
		{mostFix, 1, 1 - mostFix}, {mostFix, 0, -mostFix}, {mostFix, -1, -mostFix}, {mostFix - 1, -1, -mostFix}, {mostFix - 1, -2, -mostFix}, {mostFix - 1, 0, 1 - mostFix},
		{mostFix, -mostFix, -mostFix}, {0, -mostFix, -mostFix}, {-1, -mostFix, 1 - mostFix}, {1, -mostFix, -mostFix}, {mostFix, mostFix, 0}, {-mostFix, -mostFix, 0},
	} {
		want := cmp.Compare(c.off, 0) * mostRep
		wantNext(t, of(c.target, 1, 0, 0), api.State{}, c.util, behind(c.off, c.off), want)
		wantNext(t, of(c.target, -1, 0, 0), api.State{}, c.util, behind(c.off, c.off), -want)
		wantNext(t, of(c.target, 0, 0, 0), api.State{}, c.util, behind(c.off, c.off), 0)
	}
}

// P12.1, L1: targets and loads beyond what fixed holds are taken as the bound that is nearer.
func TestTargetsAndLoadsBeyond(t *testing.T) {
	for _, n := range []int64{mostFix, mostFix + 1, 2 * mostFix, 1 << 40, 1 << 62, math.MaxInt64 - 1, math.MaxInt64} {
		wantNext(t, of(500, 1, 0, 0), api.State{}, n, behind(mostFix-500, mostFix-500), 1000)
		wantNext(t, of(n, 1, 0, 0), api.State{}, 500, behind(500-mostFix, 500-mostFix), -1000)
		wantNext(t, of(n, mostFix, 0, 0), api.State{}, mostFix, behind(0, 0), 0)
		wantNext(t, of(mostFix, mostFix, 0, 0), api.State{}, n, behind(0, 0), 0)
		wantNext(t, of(n, mostFix, 0, 0), api.State{}, n-1, behind(min(n-1, mostFix)-mostFix, min(n-1, mostFix)-mostFix), int(max(-1000, 1000*(min(n-1, mostFix)-mostFix))))
	}
	for _, n := range []int64{-mostFix, -mostFix - 1, -2 * mostFix, -1 << 40, -1 << 62, math.MinInt64 + 1, math.MinInt64} {
		wantNext(t, of(500, 1, 0, 0), api.State{}, n, behind(-mostFix, -mostFix), -1000)
		wantNext(t, of(-500, 1, 0, 0), api.State{}, n, behind(500-mostFix, 500-mostFix), -1000)
		wantNext(t, of(n, 1, 0, 0), api.State{}, 500, behind(mostFix, mostFix), 1000)
		wantNext(t, of(n, 1, 0, 0), api.State{}, -500, behind(mostFix-500, mostFix-500), 1000)
		wantNext(t, of(n, mostFix, 0, 0), api.State{}, -mostFix, behind(0, 0), 0)
		wantNext(t, of(-mostFix, mostFix, 0, 0), api.State{}, n, behind(0, 0), 0)
	}
	wantNext(t, of(math.MinInt64, 1, 0, 0), api.State{}, math.MaxInt64, behind(mostFix, mostFix), 1000)
	wantNext(t, of(math.MaxInt64, 1, 0, 0), api.State{}, math.MinInt64, behind(-mostFix, -mostFix), -1000)
	wantNext(t, of(math.MaxInt64, 1, 0, 0), api.State{}, math.MaxInt64, behind(0, 0), 0)
	wantNext(t, of(math.MinInt64, 1, 0, 0), api.State{}, math.MinInt64, behind(0, 0), 0)
}

// P12.1, L1: sums that come just to a bound, one short of it, and beyond it, on both sides.
func TestSumsAtTheBounds(t *testing.T) {
	for _, c := range []struct{ sum, off, next int64 }{
		{mostFix - 401, 400, mostFix - 1}, {mostFix - 400, 400, mostFix}, {mostFix - 399, 400, mostFix}, {mostFix, 400, mostFix}, {mostFix, 1, mostFix}, {mostFix, 0, mostFix}, {mostFix, -1, mostFix - 1},
		{mostFix - 1, 1, mostFix}, {mostFix - 1, 2, mostFix}, {mostFix - 1, 0, mostFix - 1}, {0, mostFix, mostFix}, {1, mostFix, mostFix}, {-1, mostFix, mostFix - 1}, {mostFix, mostFix, mostFix},
		{mostFix, -mostFix, 0}, {mostFix + 1, -mostFix, 0}, {math.MaxInt64, -mostFix, 0}, {math.MaxInt64, mostFix, mostFix}, {math.MaxInt64, -1, mostFix - 1}, {math.MaxInt64 - 1, 0, mostFix}, {1 << 62, 400, mostFix}, {mostFix + 1, -400, mostFix - 400},
	} {
		wantNext(t, of(0, 0, 0, 0), api.State{Sum: c.sum}, c.off, behind(c.next, c.off), 0)
		wantNext(t, of(0, 0, 0, 0), behind(-c.sum, 77), -c.off, behind(-c.next, -c.off), 0)
	}
	wantNext(t, of(0, 0, 1, 0), api.State{Sum: math.MinInt64}, 1, behind(1-mostFix, 1), -1000)
	wantNext(t, of(0, 0, 1, 0), api.State{Sum: math.MinInt64}, -1, behind(-mostFix, -1), -1000)
	wantNext(t, of(0, 0, 1, 0), api.State{Sum: math.MinInt64}, mostFix, behind(0, mostFix), 0)
}

// P12.1, L1: sums stay at a bound, as long as errors go beyond it, and come back from it by as much as the errors are.
func TestSumsStayAndComeBack(t *testing.T) {
	p := of(400000000, 0, 1, 0)
	var up, down []row
	for _, c := range []struct{ off, sum int64 }{
		{500000000, 500000000}, {499999999, 999999999}, {1, mostFix}, {1, mostFix}, {600000000, mostFix}, {0, mostFix}, {600000000, mostFix}, {-1, 999999999}, {2, mostFix},
		{-600000000, 400000000}, {-400000000, 0}, {-1, -1}, {1, 0}, {600000000, 600000000}, {600000000, mostFix}, {-499000, 999501000},
	} {
		want := int(c.sum / 1000000)
		if c.sum%1000000 >= 500000 {
			want++
		}
		up = append(up, row{400000000 + c.off, behind(c.sum, c.off), want})
		down = append(down, row{-400000000 - c.off, behind(-c.sum, -c.off), -want})
	}
	inARow(t, p, api.State{}, up)
	p.Target = -p.Target
	inARow(t, p, api.State{}, down)
}

// P12.1, L1: halves, that go away from 0 on both sides, and those a part above and below them.
func TestHalves(t *testing.T) {
	for _, c := range []struct {
		parts int64
		want  int
	}{
		{0, 0}, {1, 0}, {499, 0}, {500, 1}, {501, 1}, {999, 1}, {1000, 1}, {1001, 1}, {1499, 1}, {1500, 2}, {1501, 2}, {2499, 2}, {2500, 3}, {2501, 3}, {998499, 998}, {998500, 999}, {998501, 999},
	} {
		wantAll(t, c.parts, c.want)
	}
}

// wantAll asks for so many replicas of as many parts, by each weight alone, on both sides.
func wantAll(t *testing.T, parts int64, want int) {
	t.Helper()
	for _, sign := range []int64{1, -1} {
		n, w := sign*parts, int(sign)*want
		wantNext(t, of(0, 1000, 0, 0), api.State{}, n, behind(n, n), w)
		wantNext(t, of(0, -1000, 0, 0), api.State{}, n, behind(n, n), -w)
		wantNext(t, of(-n, 1000, 0, 0), api.State{}, 0, behind(n, n), w)
		wantNext(t, of(7, 0, 1000, 0), behind(n, 0), 7, behind(n, 0), w)
		wantNext(t, of(7, 0, -1000, 0), behind(n, 0), 7, behind(n, 0), -w)
		wantNext(t, of(7, 0, 0, 1000), behind(0, -n), 7, behind(0, 0), w)
		wantNext(t, of(7, 0, 0, -1000), behind(0, -n), 7, behind(0, 0), -w)
	}
}

// P12.1, L1: numbers of replicas that come just to a bound, one short of it, and one beyond it.
func TestReplicasAtTheBounds(t *testing.T) {
	for _, c := range []struct {
		parts int64
		want  int
	}{
		{998499, 998}, {998500, 999}, {999000, 999}, {999499, 999}, {999500, 1000}, {999999, 1000}, {1000000, 1000}, {1000001, 1000}, {1000499, 1000}, {1000500, 1000}, {1000501, 1000}, {1001000, 1000}, {1001500, 1000},
		{2000000, 1000}, {500000000, 1000}, {mostFix - 500, 1000}, {mostFix - 1, 1000}, {mostFix, 1000},
	} {
		wantAll(t, c.parts, c.want)
	}
}

// P12.1, L1: weights of nothing, below it, the greatest and the least that may be, and any other.
func TestWeights(t *testing.T) {
	for _, c := range []struct {
		weight, of int64
		want       int
	}{
		{0, 1, 0}, {0, mostFix, 0}, {1, 499999, 0}, {1, 500000, 1}, {1, 999, 0}, {-1, 500000, -1}, {-1, 499999, 0}, {999, 500, 0}, {999, 501, 1}, {1000, 500, 1}, {-1000, 500, -1}, {-999, 500, 0}, {-999, 501, -1},
		{5000, 400, 2}, {-5000, 400, -2}, {1500, 1500, 2}, {-1500, 1500, -2}, {300, 5000, 2}, {299, 5000, 1},
		{499999, 1, 0}, {500000, 1, 1}, {-500000, 1, -1}, {-499999, 1, 0}, {999499999, 1, 999}, {999500000, 1, 1000}, {mostFix - 1, 1, 1000}, {mostFix, 1, 1000}, {mostFix + 1, 1, 1000}, {1 << 62, 1, 1000}, {math.MaxInt64 - 1, 1, 1000}, {math.MaxInt64, 1, 1000},
		{-mostFix + 1, 1, -1000}, {-mostFix, 1, -1000}, {-mostFix - 1, 1, -1000}, {-1 << 62, 1, -1000}, {math.MinInt64 + 1, 1, -1000}, {math.MinInt64, 1, -1000},
		{mostFix, 0, 0}, {-mostFix, 0, 0}, {math.MaxInt64, 0, 0}, {math.MinInt64, 0, 0}, {mostFix, mostFix, 1000}, {math.MinInt64, mostFix, -1000}, {math.MaxInt64, mostFix, 1000},
	} {
		for _, sign := range []int64{1, -1} {
			n, w := sign*c.of, int(sign)*c.want
			wantNext(t, of(0, c.weight, 0, 0), behind(0, 0), n, behind(n, n), w)
			wantNext(t, of(7, 0, c.weight, 0), behind(n, 0), 7, behind(n, 0), w)
			wantNext(t, of(7, 0, 0, c.weight), behind(0, -n), 7, behind(0, 0), w)
		}
	}
}

// P12.1, L1: weights beyond the bounds are taken as these: of 999 parts that is 999000000, of which another part takes back all but 499; a weight of two more would leave a half.
func TestWeightsBeyond(t *testing.T) {
	for _, c := range []struct {
		weight int64
		half   int
	}{{mostFix - 2, 0}, {mostFix - 1, 0}, {mostFix, 1}, {mostFix + 1, 1}, {mostFix + 2, 1}, {mostFix + 1000, 1}, {2 * mostFix, 1}, {1 << 40, 1}, {1 << 62, 1}, {math.MaxInt64 - 1, 1}, {math.MaxInt64, 1}} {
		wantWeight(t, c.weight, -998999501, 0)
		wantWeight(t, c.weight, -998999500, c.half)
		wantWeight(t, -c.weight, 998999501, 0)
		wantWeight(t, -c.weight, 998999500, -c.half)
	}
	wantWeight(t, math.MinInt64, 998999501, 0)
	wantWeight(t, math.MinInt64, 998999500, -1)
	wantWeight(t, math.MinInt64, math.MaxInt64, 1000)
	wantWeight(t, math.MaxInt64, math.MinInt64, -1000)
}

// wantWeight asks for what a weight of 999 parts, and another one of 1000, come to, by each of the three.
func wantWeight(t *testing.T, weight, back int64, want int) {
	t.Helper()
	wantNext(t, of(0, weight, back, 0), behind(1, 0), 999, behind(1000, 999), want)
	wantNext(t, of(0, back, weight, 0), behind(-1, 0), 1000, behind(999, 1000), want)
	wantNext(t, of(0, back, 0, weight), behind(0, 1), 1000, behind(1000, 1000), want)
}

// P12.1, L1: p and i are added first, then d: where a sum comes to a bound on the way, that shows.
func TestOrderOfTheParts(t *testing.T) {
	for _, c := range []struct {
		p, i, d int64
		want    int
	}{
		{mostFix, mostFix, -mostFix, 0}, {mostFix, -mostFix, mostFix, 1000}, {-mostFix, mostFix, mostFix, 1000}, {mostFix, -mostFix, -mostFix, -1000}, {-mostFix, mostFix, -mostFix, -1000}, {-mostFix, -mostFix, mostFix, 0},
		{mostFix, mostFix, mostFix, 1000}, {-mostFix, -mostFix, -mostFix, -1000}, {mostFix, mostFix, 0, 1000}, {0, mostFix, mostFix, 1000}, {0, mostFix, -mostFix, 0},
		// Just to the bound, one short of it and one beyond it: what is over is gone ahead of d.
		{600000000, 400000000, -999999501, 0}, {600000000, 400000000, -999999500, 1}, {600000000, 399999999, -999999500, 0}, {600000000, 399999999, -999999499, 1}, {600000000, 400000001, -999999501, 0}, {600000001, 400000000, -999999501, 0}, {600000000, 400000001, -999999500, 1}, {900000000, 900000000, -999999501, 0},
		{-600000000, -400000000, 999999501, 0}, {-600000000, -400000000, 999999500, -1}, {-600000000, -399999999, 999999500, 0}, {-600000000, -400000001, 999999501, 0}, {-900000000, -900000000, 999999501, 0},
		// Together with d there is nothing to come to a bound first.
		{600000000, -999999501, 400000001, 1}, {600000000, -999999501, 400000000, 0}, {-999999501, 600000000, 400000001, 1}, {-999999501, 600000000, 400000000, 0},
	} {
		// An error of a whole, of which a weight is the part itself; the sum, and the error ahead, are as those are told to be.
		p, s := of(0, c.p, c.i, c.d), behind(0, 0)
		wantNext(t, p, s, 1000, behind(1000, 1000), c.want)
		wantNext(t, p, s, -1000, behind(-1000, -1000), -c.want)
		p.Target = -1000
		wantNext(t, p, s, 0, behind(1000, 1000), c.want)
	}
}

// P12.1, P12.3: each part has its own weight, and is of what it is to be of: p of the error, i of the new sum, d of the change.
func TestEachPart(t *testing.T) {
	s := behind(70000, -2000)
	next := behind(71000, 1000)
	for _, c := range []struct {
		kp, ki, kd int64
		want       int
	}{
		{1000, 0, 0, 1}, {0, 1000, 0, 71}, {0, 0, 1000, 3}, {1000, 1000, 0, 72}, {1000, 0, 1000, 4}, {0, 1000, 1000, 74}, {1000, 1000, 1000, 75}, {0, 0, 0, 0},
		{-1000, 0, 0, -1}, {0, -1000, 0, -71}, {0, 0, -1000, -3}, {7000, -2000, 40000, -15}, {-7000, 2000, -40000, 15}, {200000, 1000, 100000, 571},
		// Parts that are no whole, each by itself, are put together ahead of Near.
		{400, 0, 0, 0}, {400, 6, 0, 1}, {400, 5, 140, 1}, {400, 0, 34, 1}, {400, 0, 33, 0}, {400, 1, 10, 1}, {400, 1, 9, 0},
	} {
		wantNext(t, of(500, c.kp, c.ki, c.kd), s, 1500, next, c.want)
	}
}

// P12.1, L1: what a policy has beside Target, Kp, Ki and Kd alters nothing, whatever it is.
func TestFieldsNotLookedAt(t *testing.T) {
	p := of(500, 5000, 1000, 2000)
	bands := []api.Band{{Above: -5, Delta: 3000}, {Above: math.MinInt64, Delta: math.MinInt}}
	slots := []api.Slot{{From: -7, N: 9}, {From: math.MaxInt64, N: math.MaxInt}}
	for _, kind := range []int{0, api.PolTrack, api.PolStep, api.PolPid, api.PolSched, 5, -1, math.MaxInt, math.MinInt} {
		for _, period := range []int64{0, 1, -1, 100, math.MaxInt64, math.MinInt64} {
			for n := range 3 {
				p.Kind, p.Period, p.Bands, p.Slots = kind, period, bands[:n], slots[:n]
				wantNext(t, p, behind(600, 200), 100, behind(200, -400), -3)
				wantNext(t, p, api.State{Sum: 600, Prev: 200}, 100, behind(200, -400), -2)
				wantNext(t, p, api.State{}, 900, behind(400, 400), 2)
			}
		}
	}
	wantNext(t, api.Policy{}, api.State{}, 900, behind(900, 900), 0)
	wantNext(t, api.Policy{}, behind(-900, math.MaxInt64), 900, behind(0, 900), 0)
}
