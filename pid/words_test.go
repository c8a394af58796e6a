package pid_test

import (
	"math"
	"math/rand/v2"
	"testing"

	"governor/api"
	"governor/pid"
)

// P12.1: each of a call's numbers at every edge, beside some of the others, held against the words done with numbers that have room enough.
func TestEveryEdge(t *testing.T) {
	l := edges()
	for _, n := range l {
		for _, m := range l {
			for _, has := range []bool{false, true} {
				for _, c := range []struct {
					p    api.Policy
					s    api.State
					util int64
				}{
					{of(n, 1000, 300, 2000), api.State{Sum: 1500, Prev: -700}, m},
					{of(n, m, 0, 0), api.State{Sum: 1500, Prev: -700}, 2100},
					{of(500, n, m, 0), api.State{Sum: 1500, Prev: -700}, 2100},
					{of(500, n, 0, m), api.State{Sum: 1500, Prev: -700}, 2100},
					{of(500, 0, n, m), api.State{Sum: 1500, Prev: -700}, 2100},
					{of(500, 1000, 300, 2000), api.State{Sum: n, Prev: m}, 2100},
					{of(500, 0, n, 0), api.State{Sum: m, Prev: -700}, 2100},
					{of(500, 0, 0, n), api.State{Sum: 1500, Prev: m}, 2100},
					{of(500, 0, n, 0), api.State{Sum: -100, Prev: -700}, m},
					{of(500, 1000, 300, 2000), api.State{Sum: n, Prev: -700}, m},
					{of(500, 1000, 300, 2000), api.State{Sum: 1500, Prev: n}, m},
					{of(n, 1000, 300, 2000), api.State{Sum: m, Prev: -700}, 2100},
					{of(n, 1000, 300, 2000), api.State{Sum: 1500, Prev: m}, 2100},
				} {
					c.s.Has = has
					asSaid(t, c.p, c.s, c.util)
				}
			}
		}
	}
}

// P12.1: all numbers of a call at once at a few of the edges.
func TestEveryEdgeAtOnce(t *testing.T) {
	l := fewEdges()
	r := rand.New(rand.NewPCG(12, 1))
	for _, target := range l {
		for _, kp := range l {
			for _, ki := range l {
				for _, kd := range l {
					for range 8 {
						s := api.State{Sum: l[r.IntN(len(l))], Prev: l[r.IntN(len(l))], Has: r.IntN(4) > 0}
						asSaid(t, of(target, kp, ki, kd), s, l[r.IntN(len(l))])
					}
				}
			}
		}
	}
}

// P12.1: many at random, of any size.
func TestManyAtRandom(t *testing.T) {
	r := rand.New(rand.NewPCG(12, 2))
	for range 100000 {
		asSaid(t, randomPolicy(r), randomState(r), random(r))
	}
}

// P12.1: many at random, so that what is wanted is mostly within the bounds, and each number of replicas comes.
func TestManyThatFit(t *testing.T) {
	r := rand.New(rand.NewPCG(12, 3))
	seen := map[int]int{}
	for range 100000 {
		p, s, util := fit(r)
		asSaid(t, p, s, util)
		_, n := pid.Next(p, s, util)
		seen[n]++
	}
	if len(seen) != 2*mostRep+1 {
		t.Error("of all answers only", len(seen), "were asked")
	}
	if seen[mostRep] > 40000 || seen[-mostRep] > 40000 {
		t.Error(seen[mostRep], "of them were the most, and", seen[-mostRep], "the least")
	}
}

// P12.1: rows of loads, each with what the one ahead carried on, from any state and by any policy.
func TestRowsAtRandom(t *testing.T) {
	r := rand.New(rand.NewPCG(12, 4))
	for range 2000 {
		p, s, _ := fit(r)
		if r.IntN(4) == 0 {
			p, s = randomPolicy(r), randomState(r)
		}
		said := s
		for range 30 {
			util := r.Int64N(3000000)
			if r.IntN(8) == 0 {
				util = random(r)
			}
			asSaid(t, p, s, util)
			s, _ = pid.Next(p, s, util)
			said, _ = says(p, said, util)
			if s != said {
				t.Fatal("carried on is", s, "and not", said)
			}
		}
	}
}

// P12.1: sums that come near to a bound, on both sides, by errors of any size.
func TestSumsNearTheBounds(t *testing.T) {
	r := rand.New(rand.NewPCG(12, 5))
	for range 30000 {
		off := some(r, mostFix)
		at := []int64{mostFix, -mostFix}[r.IntN(2)] + r.Int64N(7) - 3
		for _, ki := range []int64{1, -1, 1000, 0} {
			asSaid(t, of(0, 0, ki, 0), api.State{Sum: at - off}, off)
			asSaid(t, of(-off, 0, ki, 0), behind(at-off, off), 0)
		}
	}
}

// P12.1: sums of parts that come near to a half, or to a number of replicas that there may not be, or to a bound of what fixed holds.
func TestSumsOfPartsNearToWhatChanges(t *testing.T) {
	r := rand.New(rand.NewPCG(12, 6))
	for range 30000 {
		to := []int64{0, 500, -500, 1500, 1000000, -1000000, mostFix, -mostFix, 999500, -999500}[r.IntN(10)] + r.Int64N(5) - 2
		p, i := some(r, mostFix), some(r, mostFix)
		// An error of a whole has a weight as its part: the three come to what is told, where no bound is on the way.
		asSaid(t, of(0, p, i, to-p-i), behind(0, 0), 1000)
		asSaid(t, of(0, p, to-p, 0), behind(0, 0), 1000)
		asSaid(t, of(0, p, to-p, i), behind(0, 0), 1000)
		asSaid(t, of(0, to, 0, 0), behind(0, 0), -1000)
	}
}

// P12.1: each error, sum and change of a row about 0 and about the bounds of a number of replicas, by each weight of a few.
func TestEachNumberOfSomeRows(t *testing.T) {
	for _, middle := range []int64{0, 1000000, -1000000} {
		for n := middle - 2600; n <= middle+2600; n++ {
			for _, weight := range []int64{1000, -1000, 999, 1} {
				asSaid(t, of(0, weight, 0, 0), behind(0, 0), n)
				asSaid(t, of(0, 0, weight, 0), behind(n, 0), 0)
				asSaid(t, of(0, 0, 0, weight), behind(0, -n), 0)
			}
		}
	}
}

// P12.1: every small call, also by a way to tell it that has no numbers with more room, and nothing of layer 8.
func TestEachSmallCall(t *testing.T) {
	for _, w := range [][3]int64{{700, 0, 0}, {0, -700, 0}, {0, 0, 700}, {333, 501, -250}, {-1, 2000, 999}, {100, 100, 100}} {
		for off := int64(-12); off <= 12; off++ {
			for sum := int64(-9); sum <= 9; sum++ {
				for prev := int64(-9); prev <= 9; prev++ {
					p, s := of(5, w[0]*api.One, w[1]*api.One, w[2]*api.One), behind(sum, prev)
					// Weights are wholes here, so that nothing is cut off.
					n := w[0]*off + w[1]*(sum+off) + w[2]*(off-prev)
					want := int(math.Copysign(math.Floor(math.Abs(float64(n))/1000+0.5), float64(n)))
					wantNext(t, p, s, off+5, behind(sum+off, off), want)
					asSaid(t, p, s, off+5)
				}
			}
		}
	}
}
