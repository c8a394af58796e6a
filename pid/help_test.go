package pid_test

import (
	"fmt"
	"math"
	"math/big"
	"math/rand/v2"
	"slices"
	"testing"

	"governor/api"
	"governor/pid"
)

const (
	whole   = 1000
	mostFix = 1000000000
	mostRep = 1000
)

// number is n, as layer 8 takes each argument: into the bounds.
func number(n int64) *big.Int { return into(mostFix, big.NewInt(n)) }

// into is n, or the bound that is nearer, if it is beyond one.
func into(most int64, n *big.Int) *big.Int {
	if n.CmpAbs(big.NewInt(most)) > 0 {
		return big.NewInt(most * int64(n.Sign()))
	}
	return n
}

func plus(a, b *big.Int) *big.Int { return into(mostFix, new(big.Int).Add(a, b)) }
func less(a, b *big.Int) *big.Int { return into(mostFix, new(big.Int).Sub(a, b)) }

// product is a times b by thousandths, what is left being cut off towards 0.
func product(a, b *big.Int) *big.Int {
	n := new(big.Int).Mul(a, b)
	return into(mostFix, n.Quo(n, big.NewInt(whole)))
}

// nearest is the whole number that is, 1000 times, nearest to n; of two the one that is farther from 0.
func nearest(n *big.Int) *big.Int {
	size := new(big.Int).Abs(n)
	w, left := size.QuoRem(size, big.NewInt(whole), new(big.Int))
	if left.Cmp(big.NewInt(whole/2)) >= 0 {
		w.Add(w, big.NewInt(1))
	}
	return w.Mul(w, big.NewInt(int64(n.Sign())))
}

// parts are p, i and d of L1, ahead of their sum, with the state that is carried on.
type parts struct {
	p, i, d *big.Int
	next    api.State
}

// saysParts is L1 by the chapter's words up to the parts, and H1 to H3 by those of layer 8, with numbers that have room enough.
func saysParts(p api.Policy, s api.State, util int64) parts {
	off := less(number(util), number(p.Target))
	sum := plus(number(s.Sum), off)
	change := big.NewInt(0)
	if s.Has {
		change = less(off, number(s.Prev))
	}
	return parts{
		p:    product(number(p.Kp), off),
		i:    product(number(p.Ki), sum),
		d:    product(number(p.Kd), change),
		next: api.State{Sum: sum.Int64(), Prev: off.Int64(), Has: true},
	}
}

// says is L1 by the chapter's words.
func says(p api.Policy, s api.State, util int64) (api.State, int) {
	all := saysParts(p, s, util)
	return all.next, replicas(plus(plus(all.p, all.i), all.d))
}

// replicas is how many a sum of parts wants.
func replicas(n *big.Int) int { return int(into(mostRep, nearest(n)).Int64()) }

// wantNext asks for one call's answers.
func wantNext(t *testing.T, p api.Policy, s api.State, util int64, next api.State, want int) {
	if gotNext, got := pid.Next(p, s, util); gotNext != next || got != want {
		t.Helper()
		t.Errorf("%s is %v, %d, not %v, %d", quoted(p, s, util), gotNext, got, next, want)
	}
}

// asSaid asks for what the words say.
func asSaid(t *testing.T, p api.Policy, s api.State, util int64) {
	t.Helper()
	next, want := says(p, s, util)
	wantNext(t, p, s, util, next, want)
}

// quoted is a call as a failure tells it.
func quoted(p api.Policy, s api.State, util int64) string {
	return fmt.Sprintf("of %+v, %+v, load %d", p, s, util)
}

// of is a policy with these.
func of(target, kp, ki, kd int64) api.Policy {
	return api.Policy{Kind: api.PolPid, Target: target, Kp: kp, Ki: ki, Kd: kd}
}

// behind is what is carried on with a sum, and an error that was the one ahead.
func behind(sum, prev int64) api.State { return api.State{Sum: sum, Prev: prev, Has: true} }

// turned is n, as layer 8 takes it, the other way round.
func turned(n int64) int64 { return -number(n).Int64() }

// beside is these, and those beside each, where there are such, in order, each once.
func beside(l ...int64) []int64 {
	var all []int64
	for _, n := range l {
		if n > math.MinInt64 {
			all = append(all, n-1)
		}
		all = append(all, n)
		if n < math.MaxInt64 {
			all = append(all, n+1)
		}
	}
	slices.Sort(all)
	return slices.Compact(all)
}

// far is the bounds and those beside them, of what fixed holds and of 64 bits, and numbers beyond all.
func far() []int64 {
	return beside(-mostFix, mostFix, math.MinInt64, math.MaxInt64, -1<<62, 1<<62, 2*mostFix, -2*mostFix, -1<<31, 1<<32)
}

// edges is some numbers at which something changes, on both sides of 0, in order, each once.
func edges() []int64 {
	return beside(0, 500, -500, 1000, -1000, 1500000, -31623, mostFix/2, -mostFix/2, mostFix, -mostFix, math.MaxInt64, math.MinInt64)
}

// fewEdges is a few of them, as many of a call's numbers go through all.
func fewEdges() []int64 {
	return []int64{math.MinInt64, -mostFix, -1500, -1, 0, 500, 1000, mostFix - 1, mostFix, math.MaxInt64}
}

// random is a number of any size, on either side.
func random(r *rand.Rand) int64 { return int64(r.Uint64()) >> r.IntN(64) }

func randomPolicy(r *rand.Rand) api.Policy {
	return of(random(r), random(r), random(r), random(r))
}

func randomState(r *rand.Rand) api.State {
	return api.State{Sum: random(r), Prev: random(r), Has: r.IntN(4) > 0}
}

// some is a number of any size up to most, on either side.
func some(r *rand.Rand, most int64) int64 {
	n := r.Int64N(most + 1)
	n >>= r.IntN(12)
	if r.IntN(2) == 0 {
		return -n
	}
	return n
}

// weight is one that makes of n, an error, a sum or a change, a part that is mostly not beyond a number of replicas.
func weight(r *rand.Rand, n int64) int64 {
	if n == 0 || r.IntN(8) == 0 {
		return some(r, 5000)
	}
	return number((r.Int64N(2200001) - 1100000) * whole / n).Int64()
}

// fit is a call whose numbers are within their bounds, and of which mostly so many are wanted as there may be.
func fit(r *rand.Rand) (api.Policy, api.State, int64) {
	s := api.State{Sum: some(r, 4000000), Prev: some(r, 3000000), Has: r.IntN(8) > 0}
	target, util := 1+r.Int64N(2000000), r.Int64N(3000000)
	off := util - target
	all := [3]int64{weight(r, off), weight(r, s.Sum+off), weight(r, off-s.Prev)}
	for i := range all {
		if r.IntN(3) == 0 {
			all[i] = 0
		}
	}
	return of(target, all[0], all[1], all[2]), s, util
}
