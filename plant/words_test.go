package plant_test

import (
	"math/rand/v2"
	"testing"
)

// P16.1, Q2: configurations at all bounds, with plants, with what is wanted and with what comes at all bounds, and beside them.
func TestEveryEdge(t *testing.T) {
	edges(t, func(x call) { asSaid(t, x) })
}

// P16.1, Q2: all small numbers.
func TestSmallNumbers(t *testing.T) {
	small(func(x call) { asSaid(t, x) })
}

// P16.1, Q2: all that may come, at all bounds and beside them, with all that may wait.
func TestEveryLoad(t *testing.T) {
	for _, c := range confs() {
		for _, ready := range []int{0, 1, 5, mostRep - 1, mostRep} {
			can := int64(ready) * c.Cap
			for _, wait := range []int64{0, 1, 50, can - 1, can, can + 1, can + c.Slack, c.Slack, mostFix - mostDemand, mostFix - 1, mostFix} {
				if wait < 0 || wait > mostFix {
					continue
				}
				for _, demand := range append(coming(can), can-wait-1, can-wait, can-wait+1, can+c.Slack-wait, can+c.Slack-wait+1, mostFix-wait, mostFix-wait+1) {
					x := call{c, of(ready), ready, demand}
					x.p.Wait = wait
					asSaid(t, x)
				}
			}
		}
	}
}

// P16.1, Q2: many at random, so that each part of a step comes often.
func TestManyAtRandom(t *testing.T) {
	r := rand.New(rand.NewPCG(16, 1))
	came := map[string]int{}
	for range 200000 {
		x := randomCall(r)
		asSaid(t, x)
		next, mark := says(x)
		there := standingOf(x.p).later()
		for name, is := range map[string]bool{
			"more begin": next.Ready+len(next.Start) > 0 && mark.Cost > int64(there.all()), "some of all go": mark.Cost > 0 && mark.Cost < int64(there.all()), "all go": mark.Cost == 0 && there.all() > 0,
			"as many": mark.Cost == int64(there.all()), "some that are ready go": next.Ready < there[0], "all that begin go": len(there.start()) > 0 && len(next.Start) == 0 && next.Ready == there[0],
			"further places than the delay": x.c.Delay > 0 && len(next.Start) > x.c.Delay, "just the delay": len(next.Start) == x.c.Delay && x.c.Delay > 0,
			"something waits": next.Wait > 0, "nothing waits": next.Wait == 0, "too much waits": mark.Bad, "just Slack": next.Wait == x.c.Slack, "one above Slack": next.Wait == x.c.Slack+1,
			"nothing can be done": next.Ready == 0, "a load at its bound": next.Util == mostFix, "a load between": next.Util > 0 && next.Util < mostFix,
		} {
			if is {
				came[name]++
			} else {
				came[name] += 0
			}
		}
	}
	for name, times := range came {
		if times < 1000 {
			t.Errorf("%q came %d times alone", name, times)
		}
	}
}

// P16.1, P16.3: rows at random, each of the plant that the one ahead told, with one configuration and with many, with what is wanted up and down.
func TestRowsAtRandom(t *testing.T) {
	r := rand.New(rand.NewPCG(16, 2))
	for range 3000 {
		many := r.IntN(3) == 0
		x := randomCall(r)
		most := between(r, 1, mostRep)
		for range 40 {
			if many {
				x.c = randomConf(r)
			}
			x.want = between(r, 0, most)
			x.demand = near(r, int64(between(r, 0, most))*x.c.Cap)
			asSaid(t, x)
			said, _ := says(x)
			if x.p, _ = x.step(); !alike(x.p, said) {
				t.Fatalf("there is %+v, not %+v", x.p, said)
			}
		}
	}
}

// P16.1, Q1: New of many at random.
func TestNewAtRandom(t *testing.T) {
	r := rand.New(rand.NewPCG(16, 3))
	for range 20000 {
		n := random(r)
		wantNew(t, int(n), int(max(0, min(n, mostRep))))
	}
}
