package track_test

import (
	"math/rand/v2"
	"testing"

	"governor/track"
)

// P10.1: every triple of the edges, held against the words done with numbers that have room enough.
func TestEveryTripleOfEdges(t *testing.T) {
	l := edges()
	if len(l) < 50 {
		t.Error("only", len(l), "edges")
	}
	for _, target := range l {
		for _, cur := range l {
			for _, util := range l {
				want(t, target, int(cur), util, says(target, int(cur), util))
			}
		}
	}
}

// P10.1: many at random, of any size.
func TestManyAtRandom(t *testing.T) {
	r := rand.New(rand.NewPCG(10, 1))
	for range 300000 {
		target, cur, util := random(r), int(random(r)), random(r)
		want(t, target, cur, util, says(target, cur, util))
	}
}

// P10.1: many at random, so that what is wanted is mostly within bounds.
func TestManyThatFit(t *testing.T) {
	r := rand.New(rand.NewPCG(10, 2))
	seen := map[int]bool{}
	for range 300000 {
		target, cur, util := fit(r)
		want(t, target, cur, util, says(target, cur, util))
		seen[track.Want(target, cur, util)] = true
	}
	if len(seen) < mostRep {
		t.Error("of all answers only", len(seen), "were asked")
	}
}

// P10.1: loads near to those at which one more is wanted, where what is left is a part, or is cut off.
func TestNearToOneMore(t *testing.T) {
	r := rand.New(rand.NewPCG(10, 3))
	for range 100000 {
		target, cur, _ := fit(r)
		few := r.Int64N(mostRep + 2)
		at := few * target / max(int64(cur), 1)
		for _, util := range beside(at, at+target/1000/max(int64(cur), 1)) {
			want(t, target, cur, util, says(target, cur, util))
		}
	}
}

// P10.1: all small targets, replicas and loads, and both ways to tell what the words say.
func TestEachSmallTriple(t *testing.T) {
	for target := int64(-1); target <= 24; target++ {
		for cur := -1; cur <= 24; cur++ {
			for util := int64(-1); util <= 60; util++ {
				want(t, target, cur, util, says(target, cur, util))
				want(t, target, cur, util, saysAgain(target, cur, util))
			}
		}
	}
}

// P10.1: what the words say is the least number of replicas that have the load, but for parts of a thousandth.
func TestTheLeastThatHaveTheLoad(t *testing.T) {
	r := rand.New(rand.NewPCG(10, 4))
	for range 20000 {
		target, cur, util := fit(r)
		want(t, target, cur, util, saysAgain(target, cur, util))
	}
	for _, target := range edges() {
		for _, util := range edges() {
			for _, cur := range []int{1, 999, 1000, 1001} {
				want(t, target, cur, util, saysAgain(target, cur, util))
			}
		}
	}
}
