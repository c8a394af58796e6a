package policy_test

import (
	"math/rand/v2"
	"testing"

	"governor/api"
	"governor/policy"
)

// P14.1: each policy of some, with states, numbers of replicas, loads and times of all sizes, held against the words.
func TestEveryEdge(t *testing.T) {
	for _, p := range policies() {
		mayBe(t, p)
		for _, cur := range replicas() {
			for _, util := range loads() {
				for i, s := range states() {
					asSaid(t, call{p, s, cur, util, times()[i]})
				}
			}
			for i, at := range times() {
				asSaid(t, call{p, states()[i%len(states())], cur, loads()[i], at})
			}
		}
	}
}

// P14.1: many at random, of each kind and of the zero policy, so that all numbers of replicas come.
func TestManyAtRandom(t *testing.T) {
	r := rand.New(rand.NewPCG(14, 1))
	kinds, wanted := map[int]int{}, map[[2]int]bool{}
	for range 400000 {
		c := randomCall(r)
		mayBe(t, c.p)
		asSaid(t, c)
		kinds[c.p.Kind]++
		_, n := c.next()
		wanted[[2]int{c.p.Kind, n}] = true
	}
	for _, kind := range []int{0, 1, 2, 3, 4} {
		if kinds[kind] < 20000 {
			t.Error("of the kind", kind, "only", kinds[kind], "were asked")
		}
		for _, n := range []int{0, 1, 2, 3, 10, 998, 999, 1000} {
			if !wanted[[2]int{kind, n}] {
				t.Error("no policy of the kind", kind, "wanted", n)
			}
		}
	}
}

// P14.1: rows of loads at random, each of what the one ahead carried on and wanted, by one policy and by many, held against the words.
func TestRowsAtRandom(t *testing.T) {
	r := rand.New(rand.NewPCG(14, 2))
	for range 3000 {
		many := r.IntN(3) == 0
		c := randomCall(r)
		said, wanted := c.s, c.cur
		for range 40 {
			if many {
				c.p = randomPolicy(r)
			}
			c.util, c.t = randomLoad(r, c.p), randomTime(r, c.p)
			asSaid(t, c)
			said, wanted = says(call{c.p, said, wanted, c.util, c.t})
			c.s, c.cur = c.next()
			if c.s != said || c.cur != wanted {
				t.Fatalf("carried on is %+v with %d replicas, not %+v with %d", c.s, c.cur, said, wanted)
			}
		}
	}
}

// P14.1: Zero of many at random, right ones and others.
func TestZeroAtRandom(t *testing.T) {
	r := rand.New(rand.NewPCG(14, 3))
	for range 20000 {
		if p := randomPolicy(r); policy.Zero(p) != (p.Kind == 0) {
			t.Errorf("Zero of %+v is %v", p, policy.Zero(p))
		}
	}
}

// P1: many at random that may not be end, too, and do not panic.
func TestOthersAtRandom(t *testing.T) {
	r := rand.New(rand.NewPCG(14, 4))
	for range 100000 {
		p := randomOther(r)
		policy.Zero(p)
		s := randomState(r)
		for range 3 {
			s, _ = policy.Next(p, s, int(random(r)), random(r), random(r))
		}
		policy.Next(p, api.State{}, randomReplicas(r), randomLoad(r, api.Policy{}), 0)
	}
}
