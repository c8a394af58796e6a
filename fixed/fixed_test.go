package fixed_test

import (
	"math"
	"testing"

	"governor/fixed"
)

const (
	most  = 1000000000
	least = -most
)

// P8.1, H1: what is right stays.
func TestSatOfWhatIsRight(t *testing.T) {
	for _, n := range []int64{0, 1, -1, 499, 500, 501, 999, 1000, 1001, -499, -500, -501, -999, -1000, -1001, most - 1, most, least, least + 1} {
		want(t, "Sat", fixed.Sat(n), n, n)
	}
}

// P8.1, H1: what is not is the bound that is nearer.
func TestSatOfWhatIsBeyond(t *testing.T) {
	for _, n := range []int64{most + 1, most + 2, 1 << 31, 1 << 40, 1 << 62, math.MaxInt64 - 1, math.MaxInt64} {
		want(t, "Sat", fixed.Sat(n), most, n)
		want(t, "Sat", fixed.Sat(-n), least, -n)
	}
	want(t, "Sat", fixed.Sat(math.MinInt64), least, math.MinInt64)
}

// P8.1, H2: Add and Sub, to a bound, and beyond it by one.
func TestAdd(t *testing.T) {
	for _, c := range [][3]int64{
		{0, 0, 0}, {1, 2, 3}, {1, -1, 0}, {-1, -1, -2}, {1500, 2250, 3750}, {999, 1, 1000},
		{most - 1, 1, most}, {most, 0, most}, {most - 5, 5, most}, {most - 5, 6, most}, {most, 1, most}, {most, most, most},
		{least + 1, -1, least}, {least, 0, least}, {least + 5, -5, least}, {least + 5, -6, least}, {least, -1, least}, {least, least, least},
		{most, least, 0}, {most, -1, most - 1}, {least, 1, least + 1}, {most - 5, 4, most - 1}, {least + 5, -4, least + 1},
	} {
		want(t, "Add", fixed.Add(c[0], c[1]), c[2], c[0], c[1])
		want(t, "Add", fixed.Add(c[1], c[0]), c[2], c[1], c[0])
		want(t, "Sub", fixed.Sub(c[0], -c[1]), c[2], c[0], -c[1])
		want(t, "Sub", fixed.Sub(c[1], -c[0]), c[2], c[1], -c[0])
	}
}

// P8.1, H1, H2: each argument is taken into the bounds ahead of the sum, so that one beyond and one below 0 make less than a bound.
func TestSumsOfWhatIsBeyond(t *testing.T) {
	for _, n := range []int64{most + 1, most + 5, 1 << 40, 1 << 62, math.MaxInt64} {
		want(t, "Add", fixed.Add(n, -5), most-5, n, -5)
		want(t, "Add", fixed.Add(-5, n), most-5, -5, n)
		want(t, "Add", fixed.Add(-n, 5), least+5, -n, 5)
		want(t, "Add", fixed.Add(n, n), most, n, n)
		want(t, "Add", fixed.Add(-n, -n), least, -n, -n)
		want(t, "Add", fixed.Add(n, math.MinInt64), 0, n, math.MinInt64)
		want(t, "Sub", fixed.Sub(n, 5), most-5, n, 5)
		want(t, "Sub", fixed.Sub(5, n), least+5, 5, n)
		want(t, "Sub", fixed.Sub(-n, -5), least+5, -n, -5)
		want(t, "Sub", fixed.Sub(n, n), 0, n, n)
		want(t, "Sub", fixed.Sub(n, -n), most, n, -n)
	}
	want(t, "Sub", fixed.Sub(math.MinInt64, math.MinInt64), 0, math.MinInt64, math.MinInt64)
	want(t, "Sub", fixed.Sub(0, math.MinInt64), most, 0, math.MinInt64)
	want(t, "Sub", fixed.Sub(-1, math.MinInt64), most-1, -1, math.MinInt64)
}

// P8.1, H2: Mul, by thousandths; what is left is cut off, towards 0 on both sides.
func TestMul(t *testing.T) {
	for _, c := range [][3]int64{
		{0, 0, 0}, {0, most, 0}, {1000, 1000, 1000}, {1500, 1500, 2250}, {1000, 7, 7}, {2000, -7, -14}, {500, 500, 250},
		{1, 1, 0}, {1, 499, 0}, {1, 500, 0}, {1, 501, 0}, {1, 999, 0}, {1, 1000, 1}, {1, 1001, 1}, {1, 1999, 1}, {1, 2000, 2},
		{3, 333, 0}, {3, 334, 1}, {3, 666, 1}, {3, 667, 2}, {1001, 1001, 1002}, {999, 999, 998}, {499, 501, 249},
		{1000000, 1000000, most}, {most, 1000, most}, {most, 999, 999000000}, {most, 1001, most}, {most, most, most},
		{1000001, 1000000, most}, {999999, 1000000, 999999000}, {31622776, 31622, 999975422}, {31622776, 31623, most},
		{1000000001, 1000, most}, {most - 1, 1001, most}, {most - 1, 1000, most - 1},
		// Just to the bound, and one beyond it: what is left behind it is cut off.
		{1953125, 512000, most}, {500000000, 2000, most}, {500000000, 1999, 999500000}, {333333334, 3000, most}, {333333333, 3000, 999999999},
	} {
		for _, s := range []int64{1, -1} {
			want(t, "Mul", fixed.Mul(c[0], s*c[1]), s*c[2], c[0], s*c[1])
			want(t, "Mul", fixed.Mul(s*c[0], c[1]), s*c[2], s*c[0], c[1])
			want(t, "Mul", fixed.Mul(s*c[1], c[0]), s*c[2], s*c[1], c[0])
			want(t, "Mul", fixed.Mul(-s*c[0], -c[1]), s*c[2], -s*c[0], -c[1])
		}
	}
}

// P8.1, H1, H2: arguments beyond the bounds are taken as these, so that a product by little is less than a bound.
func TestMulOfWhatIsBeyond(t *testing.T) {
	for _, n := range []int64{most + 1, most + 999, most + 1000, 1 << 40, 1 << 62, math.MaxInt64} {
		for _, c := range [][2]int64{{0, 0}, {1, 1000000}, {499, 499000000}, {999, 999000000}, {1000, most}, {1001, most}, {math.MaxInt64, most}, {math.MinInt64, least}} {
			want(t, "Mul", fixed.Mul(n, c[0]), c[1], n, c[0])
			want(t, "Mul", fixed.Mul(c[0], n), c[1], c[0], n)
			want(t, "Mul", fixed.Mul(-n, c[0]), -c[1], -n, c[0])
		}
	}
	want(t, "Mul", fixed.Mul(math.MinInt64, 1), -1000000, math.MinInt64, 1)
	want(t, "Mul", fixed.Mul(math.MinInt64, -1), 1000000, math.MinInt64, -1)
	want(t, "Mul", fixed.Mul(math.MinInt64, math.MinInt64), most, math.MinInt64, math.MinInt64)
}

// P8.1, H2: Div, by thousandths; what is left is cut off, towards 0 on both sides.
func TestDiv(t *testing.T) {
	for _, c := range [][3]int64{
		{0, 1, 0}, {0, most, 0}, {1000, 1000, 1000}, {2250, 1500, 1500}, {1000, 3000, 333}, {2000, 3000, 666}, {1, 3, 333}, {2, 3, 666},
		{7, 1000, 7}, {1, 999, 1}, {1, 1000, 1}, {1, 1001, 0}, {2, 1001, 1}, {499, 500, 998}, {500, 501, 998}, {501, 500, 1002}, {1000, 999, 1001},
		{1, most, 0}, {1000000, most, 1}, {999999, most, 0}, {1000001, most, 1}, {1999999, most, 1}, {most - 1, most, 999}, {most, most, 1000}, {most, most - 1, 1000},
		{most, 1000, most}, {most, 1001, 999000999}, {most, 999, most}, {most, 1, most}, {most, 2, most},
		{1, 1, 1000}, {999, 1, 999000}, {1000000, 1, most}, {999999, 1, 999999000}, {1000001, 1, most}, {2000001, 2, most}, {2000000, 2, most}, {1999999, 2, 999999500},
		{2999999, 3, 999999666}, {3000000, 3, most}, {3000001, 3, most}, {most - 1, 1000, most - 1}, {most - 1, 999, most},
	} {
		for _, s := range []int64{1, -1} {
			want(t, "Div", fixed.Div(c[0], s*c[1]), s*c[2], c[0], s*c[1])
			want(t, "Div", fixed.Div(s*c[0], c[1]), s*c[2], s*c[0], c[1])
			want(t, "Div", fixed.Div(-s*c[0], -c[1]), s*c[2], -s*c[0], -c[1])
		}
	}
}

// P8.1, H2: Div by 0 is the bound on the side of what is above 0, or below it; of 0 it is 0.
func TestDivByNothing(t *testing.T) {
	for _, n := range []int64{1, 499, 500, 999, 1000, 1001, 1000000, most - 1, most, most + 1, 1 << 62, math.MaxInt64} {
		want(t, "Div", fixed.Div(n, 0), most, n, 0)
		want(t, "Div", fixed.Div(-n, 0), least, -n, 0)
	}
	want(t, "Div", fixed.Div(math.MinInt64, 0), least, math.MinInt64, 0)
	want(t, "Div", fixed.Div(0, 0), 0, 0, 0)
}

// P8.1, H2: Div by 1 and by -1, which are thousandths.
func TestDivByLittle(t *testing.T) {
	for _, c := range [][2]int64{
		{0, 0}, {1, 1000}, {-1, -1000}, {499, 499000}, {999999, 999999000}, {1000000, most}, {1000001, most}, {-999999, -999999000}, {-1000000, least}, {-1000001, least},
		{most, most}, {least, least}, {math.MaxInt64, most}, {math.MinInt64, least},
	} {
		want(t, "Div", fixed.Div(c[0], 1), c[1], c[0], 1)
		want(t, "Div", fixed.Div(c[0], -1), -c[1], c[0], -1)
	}
}

// P8.1, H1, H2: arguments beyond the bounds are taken as these, above the line and below it.
func TestDivOfWhatIsBeyond(t *testing.T) {
	for _, n := range []int64{most + 1, 2 * most, 1 << 40, 1 << 62, math.MaxInt64} {
		for _, c := range [][2]int64{{most, 1000}, {2000, 500000000}, {1001, 999000999}, {500000000, 2000}, {most - 1, 1000}, {n, 1000}, {-n, -1000}, {1000001, 999999}} {
			want(t, "Div", fixed.Div(n, c[0]), c[1], n, c[0])
			want(t, "Div", fixed.Div(-n, c[0]), -c[1], -n, c[0])
		}
		for _, c := range [][2]int64{{1, 0}, {999999, 0}, {1000000, 1}, {most - 1, 999}, {most, 1000}} {
			want(t, "Div", fixed.Div(c[0], n), c[1], c[0], n)
			want(t, "Div", fixed.Div(c[0], -n), -c[1], c[0], -n)
		}
	}
	want(t, "Div", fixed.Div(math.MinInt64, math.MinInt64), 1000, math.MinInt64, math.MinInt64)
	want(t, "Div", fixed.Div(math.MinInt64, -1), most, math.MinInt64, -1)
	want(t, "Div", fixed.Div(most, math.MinInt64), -1000, most, math.MinInt64)
}

// P8.1, H3: Clamp asks for least ahead of most.
func TestClamp(t *testing.T) {
	for _, c := range [][4]int64{
		{5, 7, 9, 7}, {6, 7, 9, 7}, {7, 7, 9, 7}, {8, 7, 9, 8}, {9, 7, 9, 9}, {10, 7, 9, 9}, {11, 7, 9, 9},
		{6, 7, 7, 7}, {7, 7, 7, 7}, {8, 7, 7, 7},
		{-5, -9, -7, -7}, {-8, -9, -7, -8}, {-10, -9, -7, -9}, {0, 0, 0, 0}, {1, 0, 0, 0}, {-1, 0, 0, 0}, {0, -1, 1, 0},
		// Least is above most: what is below the least is that, all else the most.
		{5, 7, 3, 7}, {2, 7, 3, 7}, {3, 7, 3, 7}, {6, 7, 3, 7}, {7, 7, 3, 3}, {8, 7, 3, 3}, {4, 4, 3, 3}, {3, 4, 3, 4}, {0, 1, -1, 1}, {1, 1, -1, -1},
	} {
		want(t, "Clamp", fixed.Clamp(c[0], c[1], c[2]), c[3], c[:3]...)
	}
}

// P8.1, H1, H3: each of the three is taken into the bounds ahead of all else.
func TestClampOfWhatIsBeyond(t *testing.T) {
	for _, n := range []int64{most + 1, 1 << 40, 1 << 62, math.MaxInt64} {
		for _, c := range [][4]int64{
			{n, 7, 9, 9}, {-n, 7, 9, 7}, {n, -n, n, most}, {-n, -n, n, least}, {8, -n, n, 8}, {8, n, 9, most}, {8, 7, -n, least}, {8, -n, 7, 7}, {8, 9, n, 9},
			// Beyond the least, which is MaxFix itself, is nothing: so what is as far as that is not below it, and the most is asked.
			{most, n, 3, 3}, {n, n, 3, 3}, {n, most, 3, 3}, {most - 1, n, 3, most}, {-n, 3, -n, 3}, {least, -n, least, least}, {-n, least, -n, least}, {n, most, n, most},
			{n, 0, most, most}, {-n, least, 0, least}, {math.MaxInt64, n, least, least}, {math.MinInt64, -n, n, least},
		} {
			want(t, "Clamp", fixed.Clamp(c[0], c[1], c[2]), c[3], c[:3]...)
		}
	}
}

// P8.1, H3: Up is the least whole number that is not below; it is not by thousandths.
func TestUp(t *testing.T) {
	for _, c := range [][2]int64{
		{0, 0}, {1, 1}, {499, 1}, {500, 1}, {501, 1}, {999, 1}, {1000, 1}, {1001, 2}, {1500, 2}, {1999, 2}, {2000, 2}, {2001, 3},
		{-1, 0}, {-499, 0}, {-500, 0}, {-501, 0}, {-999, 0}, {-1000, -1}, {-1001, -1}, {-1500, -1}, {-1999, -1}, {-2000, -2}, {-2001, -2},
		{999999000, 999999}, {999999001, 1000000}, {most - 1, 1000000}, {most, 1000000}, {most + 1, 1000000}, {1 << 62, 1000000}, {math.MaxInt64, 1000000},
		{-999999000, -999999}, {-999999001, -999999}, {least + 1, -999999}, {least, -1000000}, {least - 1, -1000000}, {least - 1000, -1000000}, {-1 << 62, -1000000}, {math.MinInt64, -1000000},
	} {
		want(t, "Up", fixed.Up(c[0]), c[1], c[0])
	}
}

// P8.1, H3: Near is the nearest whole number, of two the one that is farther from 0.
func TestNear(t *testing.T) {
	for _, c := range [][2]int64{
		{0, 0}, {1, 0}, {499, 0}, {500, 1}, {501, 1}, {999, 1}, {1000, 1}, {1001, 1}, {1499, 1}, {1500, 2}, {1501, 2}, {1999, 2}, {2000, 2}, {2499, 2}, {2500, 3}, {2501, 3},
		{999999000, 999999}, {999999499, 999999}, {999999500, 1000000}, {999999501, 1000000}, {most - 1, 1000000}, {most, 1000000}, {most + 1, 1000000}, {most + 500, 1000000}, {1 << 62, 1000000}, {math.MaxInt64, 1000000},
	} {
		want(t, "Near", fixed.Near(c[0]), c[1], c[0])
		want(t, "Near", fixed.Near(-c[0]), -c[1], -c[0])
	}
	want(t, "Near", fixed.Near(math.MinInt64), -1000000, math.MinInt64)
}
