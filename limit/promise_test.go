package limit_test

import (
	"math"
	"math/rand/v2"
	"sync"
	"testing"

	"governor/api"
	"governor/limit"
)

// withinBounds is P15.2 of one call.
func withinBounds(t *testing.T, x call) {
	n := x.next().Cur
	if n < x.c.Min || n > x.c.Max {
		t.Helper()
		t.Errorf("%v is %d, which is not within bounds", x, n)
	}
	if x.h.Cur < x.c.Min || x.h.Cur > x.c.Max {
		return
	}
	if n > x.h.Cur+x.c.Rate || n < x.h.Cur-x.c.Rate {
		t.Helper()
		t.Errorf("%v is %d, which is too far", x, n)
	}
}

// P15.2: bounds, at all edges.
func TestBounds(t *testing.T) {
	edges(t, func(x call) { withinBounds(t, x) })
}

// P15.2, P15.3: so it is in rows at random: what is held goes from bounds to bounds, and never shrinks for Stable behind the last one that grew.
func TestBoundsInRows(t *testing.T) {
	r := rand.New(rand.NewPCG(15, 5))
	for range 5000 {
		c := randomConf(r)
		c.Stable = between[int64](r, 0, 30)
		mayBe(t, c)
		h := limit.Into(c, api.Hold{Cur: random(r)})
		now, grew, last := int64(0), false, int64(0)
		for range 60 {
			now += int64(r.IntN(6))
			x := call{c, h, randomWant(r, c, h.Cur), now}
			withinBounds(t, x)
			next := x.next()
			if next.Cur < h.Cur && grew && now < last+c.Stable {
				t.Fatalf("%v shrinks to %d, %d behind a growth", x, next.Cur, now-last)
			}
			if next.Cur > h.Cur {
				grew, last = true, now
			}
			h = next
		}
	}
}

// P15.3: for Stable behind a growth nothing shrinks, whatever is wanted, and however often it is asked; then it does.
func TestNothingShrinks(t *testing.T) {
	for _, c := range confs() {
		mayBe(t, c)
		if c.Min == c.Max {
			continue
		}
		for _, grew := range []int64{0, 3, 1000} {
			h := limit.Next(c, never(c.Min), c.Max, grew)
			for _, want := range []int{math.MinInt, -1, 0, c.Min, h.Cur - 1} {
				for _, now := range []int64{0, grew, grew + 1, grew + c.Stable/3, grew + c.Stable - 1} {
					if now >= 0 && now < grew+c.Stable && now <= mostTime {
						wantNext(t, call{c, h, want, now}, h)
					}
				}
				if over := grew + c.Stable; over <= mostTime {
					wantNext(t, call{c, h, want, over}, grown(max(c.Min, want, h.Cur-c.Rate), grew))
				}
			}
		}
	}
}

// P15.3: many at random do not shrink within Stable, and not at a time ahead of the growth.
func TestNothingShrinksAtRandom(t *testing.T) {
	r := rand.New(rand.NewPCG(15, 6))
	for range 100000 {
		x := randomCall(r)
		x.h.Grew = true
		x.now = min(randomNow(r, x.c, x.h.Last), x.h.Last+x.c.Stable-1)
		if x.now < 0 {
			continue
		}
		if g, n := limit.Into(x.c, x.h), x.next(); n.Cur < g.Cur {
			t.Errorf("%v shrinks to %d", x, n.Cur)
		}
	}
}

// there asks whether one of so many that there may be is within all that the chapter says of it.
func there(x call, g api.Hold, n int) bool {
	kept := g.Grew && x.now-g.Last < x.c.Stable
	return n >= x.c.Min && n <= x.c.Max && n-g.Cur <= x.c.Rate && g.Cur-n <= x.c.Rate && (n >= g.Cur || !kept)
}

// P15.4: of all that there may be it is the one that is nearest to what is wanted, so that what may be is held.
func TestNearestOne(t *testing.T) {
	small(t, func(c api.Conf, h api.Hold) {
		for want := -3; want <= 9; want++ {
			for now := range int64(7) {
				x := call{c, h, want, now}
				g, best := limit.Into(c, h), mostRep
				for n := range 9 {
					if there(x, g, n) && max(n-want, want-n) < max(best-want, want-best) {
						best = n
					}
				}
				if got := x.next().Cur; got != best {
					t.Errorf("%v is %d, and not %d", x, got, best)
				}
			}
		}
	})
}

// noFarther is P15.4 of one call.
func noFarther(t *testing.T, x call) {
	g, n := limit.Into(x.c, x.h), x.next()
	if there(x, g, x.want) && n.Cur != x.want {
		t.Helper()
		t.Errorf("%v is %d, though what is wanted may be", x, n.Cur)
	}
	if n.Cur < min(g.Cur, x.want) || n.Cur > max(g.Cur, x.want) {
		t.Helper()
		t.Errorf("%v is %d, farther than is wanted", x, n.Cur)
	}
	// What is held once more, with what there is wanted, is what there is.
	again := call{x.c, n, n.Cur, x.now}
	wantNext(t, again, n)
}

// P15.4: no farther, at all edges.
func TestNoFarther(t *testing.T) {
	edges(t, func(x call) { noFarther(t, x) })
}

// P15.2, P15.4: so it is with many at random, and where more is wanted there are never fewer.
func TestNoFartherAtRandom(t *testing.T) {
	r := rand.New(rand.NewPCG(15, 7))
	for range 100000 {
		x := randomCall(r)
		mayBe(t, x.c)
		withinBounds(t, x)
		noFarther(t, x)
		more := x
		more.want = max(x.want, randomWant(r, x.c, x.h.Cur))
		if less, n := x.next().Cur, more.next().Cur; n < less {
			t.Errorf("%v is %d, and where %d are wanted only %d", x, less, more.want, n)
		}
	}
}

// P15.1, O1: what is wanted is reached in so many steps as Rate takes, and not one sooner.
func TestManySteps(t *testing.T) {
	for _, rate := range []int{1, 3, 7, 100, 999, mostRep} {
		c := conf(1, mostRep, rate, 0)
		for _, ends := range [][2]int{{1, mostRep}, {mostRep, 1}, {500, 510}, {510, 500}, {7, 7}} {
			h, steps := never(ends[0]), 0
			for ; h.Cur != ends[1] && steps <= mostRep; steps++ {
				h = limit.Next(c, h, ends[1], int64(steps))
			}
			if far := max(ends[0]-ends[1], ends[1]-ends[0]); steps != (far+rate-1)/rate {
				t.Errorf("from %d to %d there are %d steps of %d", ends[0], ends[1], steps, rate)
			}
		}
	}
}

// P15.1, O1: what is told hangs on Min, Max, Rate and Stable of a configuration, and on no other number of it.
func TestOtherNumbers(t *testing.T) {
	r := rand.New(rand.NewPCG(15, 8))
	for range 20000 {
		x := randomCall(r)
		other := randomConf(r)
		other.Min, other.Max, other.Rate, other.Stable = x.c.Min, x.c.Max, x.c.Rate, x.c.Stable
		mayBe(t, other)
		wantNext(t, call{other, x.h, x.want, x.now}, x.next())
		wantInto(t, other, x.h, limit.Into(x.c, x.h))
	}
}

// P15.1, O1: what is told hangs on how long a growth is behind, and not on when that was.
func TestLater(t *testing.T) {
	r := rand.New(rand.NewPCG(15, 9))
	for range 20000 {
		x := randomCall(r)
		later := between(r, 0, mostTime-max(x.now, x.h.Last))
		n := x.next()
		x.now += later
		x.h.Last += later
		n.Last += later
		wantNext(t, x, n)
	}
}

// P3: what is answered hangs on the arguments, and not on the calls ahead.
func TestOnItsArgumentsAlone(t *testing.T) {
	r := rand.New(rand.NewPCG(15, 10))
	for range 20000 {
		x, ahead := randomCall(r), randomCall(r)
		into, n := limit.Into(x.c, x.h), x.next()
		ahead.next()
		limit.Into(ahead.c, ahead.h)
		wantNext(t, x, n)
		wantInto(t, x.c, x.h, into)
	}
}

// P3: so it is where many ask at a time.
func TestManyAtATime(t *testing.T) {
	var group sync.WaitGroup
	for i := range uint64(8) {
		group.Go(func() {
			r := rand.New(rand.NewPCG(15, 20+i))
			for range 5000 {
				asSaid(t, randomCall(r))
			}
		})
	}
	group.Wait()
}
