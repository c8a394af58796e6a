package fixed_test

import (
	"math"
	"math/big"
	"math/rand/v2"
	"slices"
	"strconv"
	"testing"

	"governor/api"
	"governor/fixed"
)

// one, two and three are a call of so many arguments, as the program does it and as the words tell it, with numbers that have room enough.
type one struct {
	name string
	does func(n int64) int64
	says func(n int64) int64
}

type two struct {
	name string
	does func(a, b int64) int64
	says func(a, b int64) int64
}

func ones() []one {
	return []one{
		{"Sat", fixed.Sat, func(n int64) int64 { return saysSat(big.NewInt(n)).Int64() }},
		{"Up", fixed.Up, saysUp},
		{"Near", fixed.Near, saysNear},
	}
}

func twos() []two {
	return []two{
		{"Add", fixed.Add, func(a, b int64) int64 { return saysSat(sum(taken(a), taken(b))).Int64() }},
		{"Sub", fixed.Sub, func(a, b int64) int64 { return saysSat(sum(taken(a), new(big.Int).Neg(taken(b)))).Int64() }},
		{"Mul", fixed.Mul, func(a, b int64) int64 { return saysSat(cut(times(taken(a), taken(b)), big.NewInt(1000))).Int64() }},
		{"Div", fixed.Div, saysDiv},
	}
}

func sum(a, b *big.Int) *big.Int   { return new(big.Int).Add(a, b) }
func times(a, b *big.Int) *big.Int { return new(big.Int).Mul(a, b) }

// cut is a by b, what is left being cut off, towards 0.
func cut(a, b *big.Int) *big.Int { return new(big.Int).Quo(a, b) }

// taken is an argument, as each is taken ahead of all else.
func taken(n int64) *big.Int { return saysSat(big.NewInt(n)) }

// saysSat is n, if it is right; else the bound that is nearer.
func saysSat(n *big.Int) *big.Int {
	if most := big.NewInt(1000000000); n.CmpAbs(most) > 0 {
		return times(most, big.NewInt(int64(n.Sign())))
	}
	return n
}

func saysDiv(a, b int64) int64 {
	x, y := taken(a), taken(b)
	if y.Sign() == 0 {
		return int64(x.Sign()) * 1000000000
	}
	return saysSat(cut(times(big.NewInt(1000), x), y)).Int64()
}

func saysClamp(n, least, most int64) int64 {
	x, low, high := taken(n), taken(least), taken(most)
	if x.Cmp(low) < 0 {
		return low.Int64()
	}
	if x.Cmp(high) > 0 {
		return high.Int64()
	}
	return x.Int64()
}

// about is whole numbers of which some, 1000 times, are below n and some above it, in order.
func about(n *big.Int) []*big.Int {
	var l []*big.Int
	for d := int64(-2); d <= 2; d++ {
		l = append(l, sum(cut(n, big.NewInt(1000)), big.NewInt(d)))
	}
	return l
}

// saysUp is the first of them that is, 1000 times, not below n.
func saysUp(n int64) int64 {
	for _, w := range about(taken(n)) {
		if times(w, big.NewInt(1000)).Cmp(taken(n)) >= 0 {
			return w.Int64()
		}
	}
	return math.MinInt64
}

// saysNear is the one of them that is, 1000 times, nearest to n; of two the one that is farther from 0.
func saysNear(n int64) int64 {
	far := func(w *big.Int) *big.Int { return sum(times(w, big.NewInt(1000)), new(big.Int).Neg(taken(n))) }
	best := slices.MinFunc(about(taken(n)), func(a, b *big.Int) int {
		if c := far(a).CmpAbs(far(b)); c != 0 {
			return c
		}
		return b.CmpAbs(a)
	})
	return best.Int64()
}

// beside is these, and those beside each, where there are such.
func beside(l ...int64) []int64 {
	var all []int64
	for _, n := range l {
		if n > math.MinInt64 {
			all = append(all, n-1)
		}
		all = append(all, n)
		if n < math.MaxInt64 {
			all = append(all, n+1)
		}
	}
	return all
}

// edges is some hundred numbers at which something changes, on both sides of 0, each once.
func edges() []int64 {
	l := beside(0, 2, 10, 499, 500, 501, 999, 1000, 1001, 1499, 1500, 1501, 1999, 2000, 2500, 9999, 31623,
		500000, 999500, 1000000, 31622776, 1000000000/3, 500000000, 999999000, 999999500, 1000000000, 1000000500,
		1000001000, 1000000000000, 1<<62, math.MaxInt64)
	for n := int64(16); n < 1<<60; n *= 4 {
		l = append(l, beside(n, 5*n)...)
	}
	for _, n := range slices.Clone(l) {
		l = append(l, -n)
	}
	l = append(l, beside(math.MinInt64)...)
	slices.Sort(l)
	return slices.Compact(l)
}

// bounds is 0 and the bounds, those of an int64 too, and those beside them.
func bounds() []int64 { return beside(0, most, least, 1<<62, math.MaxInt64, math.MinInt64) }

// right is those of the edges that are right.
func right() []int64 {
	return slices.DeleteFunc(edges(), func(n int64) bool { return n < -api.MaxFix || n > api.MaxFix })
}

// random is a number of any size, on either side, and beyond the bounds now and then.
func random(r *rand.Rand) int64 {
	return int64(r.Uint64()) >> r.IntN(64)
}

func told(name string, got, want int64, args ...int64) string {
	s := name
	for _, n := range args {
		s += " " + strconv.FormatInt(n, 10)
	}
	return s + ": " + strconv.FormatInt(got, 10) + ", not " + strconv.FormatInt(want, 10)
}

func want(t *testing.T, name string, got, want int64, args ...int64) {
	if got != want {
		t.Helper()
		t.Error(told(name, got, want, args...))
	}
}
