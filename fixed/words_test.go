package fixed_test

import (
	"math/rand/v2"
	"testing"

	"governor/fixed"
)

// P8.1: every pair of edges, as the words tell it.
func TestEveryPairOfEdges(t *testing.T) {
	l := edges()
	if len(l) < 300 {
		t.Error("only", len(l), "edges")
	}
	for _, c := range ones() {
		for _, n := range l {
			want(t, c.name, c.does(n), c.says(n), n)
		}
	}
	for _, c := range twos() {
		for _, a := range l {
			for _, b := range l {
				want(t, c.name, c.does(a, b), c.says(a, b), a, b)
			}
		}
	}
}

// P8.1: Clamp, with each three of some edges.
func TestEveryThreeOfSomeEdges(t *testing.T) {
	l := beside(0, 7, -7, most, least, 1<<62, -1<<62)
	for _, n := range l {
		for _, low := range l {
			for _, high := range l {
				want(t, "Clamp", fixed.Clamp(n, low, high), saysClamp(n, low, high), n, low, high)
			}
		}
	}
}

// P8.1: many at random.
func TestManyAtRandom(t *testing.T) {
	r := rand.New(rand.NewPCG(8, 10))
	for range 100000 {
		a, b, d := random(r), random(r), random(r)
		for _, c := range ones() {
			want(t, c.name, c.does(a), c.says(a), a)
		}
		for _, c := range twos() {
			want(t, c.name, c.does(a, b), c.says(a, b), a, b)
		}
		want(t, "Clamp", fixed.Clamp(a, b, d), saysClamp(a, b, d), a, b, d)
	}
}

// P8.1: products and quotients that come near to a bound, and to what is cut off: b is what makes of a about such a one.
func TestNearToABound(t *testing.T) {
	r := rand.New(rand.NewPCG(8, 11))
	for range 50000 {
		a := r.Int64N(most) + 1
		to := []int64{most, 1000, 1, 500}[r.IntN(4)] + r.Int64N(5) - 2
		for _, b := range beside(to*1000/a, a*1000/(to+3)) {
			for _, c := range twos() {
				want(t, c.name, c.does(a, b), c.says(a, b), a, b)
				want(t, c.name, c.does(-a, b), c.says(-a, b), -a, b)
			}
		}
	}
}

// P8.1: each number about 0, and each about both bounds.
func TestEachNumberOfSomeRows(t *testing.T) {
	for _, middle := range []int64{0, most, least, 500000000, -500000000} {
		for n := middle - 5000; n <= middle+5000; n++ {
			for _, c := range ones() {
				want(t, c.name, c.does(n), c.says(n), n)
			}
		}
	}
}

// P8.1: each pair of small numbers: all that can be cut off is.
func TestEachPairOfSmallNumbers(t *testing.T) {
	for a := int64(-60); a <= 60; a++ {
		for b := int64(-1100); b <= 1100; b++ {
			for _, c := range twos()[2:] {
				want(t, c.name, c.does(a, b), c.says(a, b), a, b)
			}
		}
	}
}
