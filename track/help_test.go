package track_test

import (
	"math"
	"math/big"
	"math/rand/v2"
	"slices"
	"strconv"
	"testing"

	"governor/track"
)

const (
	whole   = 1000
	mostFix = 1000000000
	mostRep = 1000
)

func number(n int64) *big.Int      { return big.NewInt(n) }
func times(a, b *big.Int) *big.Int { return new(big.Int).Mul(a, b) }

// nearest is n, or the bound that is nearer, if it is beyond one.
func nearest(n *big.Int, least, most int64) *big.Int {
	if n.Cmp(number(least)) < 0 {
		return number(least)
	}
	if n.Cmp(number(most)) > 0 {
		return number(most)
	}
	return n
}

// says is J1 by the chapter's words, and H1 to H3 by those of layer 8, with numbers that have room enough.
func says(target int64, cur int, util int64) int {
	n := nearest(number(int64(cur)), 0, mostRep)
	u := nearest(number(util), 0, mostFix)
	to := nearest(number(target), 1, mostFix)
	product := times(times(number(whole), n), u)
	load := nearest(product.Quo(product, number(whole)), -mostFix, mostFix)
	quotient := times(number(whole), load)
	parts := nearest(quotient.Quo(quotient, to), -mostFix, mostFix)
	up, left := new(big.Int).QuoRem(parts, number(whole), new(big.Int))
	if left.Sign() > 0 {
		up.Add(up, number(1))
	}
	return int(nearest(up, 0, mostRep).Int64())
}

// saysAgain is the same by what it comes to: loads are summed, at most MaxFix, and the least number of replicas is looked for, by counting, of which each has, by thousandths that are cut off, no more than is to be.
func saysAgain(target int64, cur int, util int64) int {
	n := nearest(number(int64(cur)), 0, mostRep).Int64()
	u := nearest(number(util), 0, mostFix).Int64()
	to := nearest(number(target), 1, mostFix).Int64()
	load := min(n*u, mostFix)
	for few := int64(0); few < mostRep; few++ {
		// One part more than few replicas have is not reached.
		if whole*load < (whole*few+1)*to {
			return int(few)
		}
	}
	return mostRep
}

// beside is these, and those beside each, where there are such.
func beside(l ...int64) []int64 {
	var all []int64
	for _, n := range l {
		if n > math.MinInt64 {
			all = append(all, n-1)
		}
		all = append(all, n)
		if n < math.MaxInt64 {
			all = append(all, n+1)
		}
	}
	return all
}

// edges is some fifty numbers at which something changes, in order, each once.
func edges() []int64 {
	l := beside(0, 3, 10, 500, 1000, 2000, 31623, 500000, 1000000, 1<<31, -1000, -mostFix, mostFix/2, mostFix, math.MaxInt64, math.MinInt64)
	l = append(l, 7, 60, 99, 250, 333, 334, 600, 667, 900, 333333333, 333333334, 1<<40, 1<<62, -1<<40)
	slices.Sort(l)
	return slices.Compact(l)
}

// random is a number of any size, mostly above 0, and beyond the bounds now and then.
func random(r *rand.Rand) int64 {
	n := int64(r.Uint64() >> 1 >> r.IntN(63))
	if r.IntN(16) == 0 {
		return -n
	}
	return n
}

// fit is a target, replicas and a load that are within their bounds, of any size, so that what comes of them is within its bounds mostly.
func fit(r *rand.Rand) (int64, int, int64) {
	target := min(1+random(r)&(1<<30-1), mostFix)
	cur := r.IntN(mostRep + 1)
	if r.IntN(2) == 0 {
		return max(target, 1), cur, r.Int64N(4*max(target, 1) + 1)
	}
	return max(target, 1), cur, r.Int64N(mostFix/int64(cur+1) + 1)
}

func told(got, want int, target int64, cur int, util int64) string {
	return "Want " + strconv.FormatInt(target, 10) + ", " + strconv.Itoa(cur) + ", " + strconv.FormatInt(util, 10) +
		" is " + strconv.Itoa(got) + ", not " + strconv.Itoa(want)
}

func want(t *testing.T, target int64, cur int, util int64, want int) {
	if got := track.Want(target, cur, util); got != want {
		t.Helper()
		t.Error(told(got, want, target, cur, util))
	}
}
