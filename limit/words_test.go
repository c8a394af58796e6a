package limit_test

import (
	"math/rand/v2"
	"testing"

	"governor/api"
	"governor/limit"
)

// P15.1, O1: configurations at all bounds, with holds and with what is wanted at all bounds, and beside them.
func TestEveryEdge(t *testing.T) {
	edges(t, func(x call) { asSaid(t, x) })
}

// P15.1, O1: so it is at all times, behind a growth and ahead of it.
func TestEveryTime(t *testing.T) {
	for _, c := range confs() {
		mayBe(t, c)
		for _, at := range times(c.Stable) {
			for _, cur := range []int{0, c.Min, (c.Min + c.Max) / 2, c.Max, 2 * mostRep} {
				for _, want := range []int{-1, c.Min, cur - 1, cur, cur + 1, c.Max} {
					for _, grew := range []bool{false, true} {
						asSaid(t, call{c, api.Hold{Cur: cur, Last: at.last, Grew: grew}, want, at.now})
					}
				}
			}
		}
	}
}

// P15.1, O1: all small numbers.
func TestSmallNumbers(t *testing.T) {
	small(t, func(c api.Conf, h api.Hold) {
		for want := -7; want <= 12; want++ {
			for now := range int64(7) {
				asSaid(t, call{c, h, want, now})
			}
		}
	})
}

// P15.1, O1: many at random, so that each bound holds some, and each time grows some and shrinks some.
func TestManyAtRandom(t *testing.T) {
	r := rand.New(rand.NewPCG(15, 1))
	came := map[string]int{}
	for range 300000 {
		c := randomCall(r)
		mayBe(t, c.c)
		asSaid(t, c)
		cur, n := saysInto(c.c, c.h).Cur, c.next().Cur
		for name, is := range map[string]bool{
			"grew": n > cur, "shrank": n < cur, "stayed": n == cur, "came into bounds": cur != c.h.Cur,
			"at Rate more": n == cur+c.c.Rate, "at Rate fewer": n == cur-c.c.Rate,
			"up to Max": c.want > c.c.Max && n == c.c.Max && n > cur, "down to Min": c.want < c.c.Min && n == c.c.Min && n < cur,
			"as wanted": n == c.want, "was kept": c.want < cur && n == cur && cur > c.c.Min,
		} {
			if is {
				came[name]++
			}
		}
	}
	for _, name := range []string{"grew", "shrank", "stayed", "came into bounds", "at Rate more", "at Rate fewer", "up to Max", "down to Min", "as wanted", "was kept"} {
		if came[name] < 2000 {
			t.Errorf("%q came %d times alone", name, came[name])
		}
	}
}

// P15.1, O1: rows at random, each of what the one ahead held, with one configuration and with many, at times that rise, stand and fall.
func TestRowsAtRandom(t *testing.T) {
	r := rand.New(rand.NewPCG(15, 2))
	for range 3000 {
		many := r.IntN(3) == 0
		c := randomCall(r)
		c.c.Stable = between[int64](r, 0, 40)
		said := c.h
		for range 40 {
			if many {
				c.c = randomConf(r)
			}
			c.want = randomWant(r, c.c, saysInto(c.c, c.h).Cur)
			c.now = max(0, min(c.now+int64(r.IntN(20)-2), mostTime))
			asSaid(t, c)
			said = says(call{c.c, said, c.want, c.now})
			c.h = c.next()
			if c.h != said {
				t.Fatalf("what is held is %+v, not %+v", c.h, said)
			}
		}
	}
}

// P15.1, O1: Into of many at random, and again of what it told, which it leaves.
func TestIntoAtRandom(t *testing.T) {
	r := rand.New(rand.NewPCG(15, 3))
	for range 100000 {
		c := randomConf(r)
		h := randomHold(r, c)
		wantInto(t, c, h, saysInto(c, h))
		wantInto(t, c, limit.Into(c, h), saysInto(c, h))
	}
}

// P1: many at random that may not be, at times that may not be, end, too, and do not panic.
func TestOthersAtRandom(t *testing.T) {
	r := rand.New(rand.NewPCG(15, 4))
	for range 100000 {
		c := conf(random(r), random(r), random(r), int64(random(r)))
		h := api.Hold{Cur: random(r), Last: int64(random(r)), Grew: r.IntN(2) == 0}
		limit.Into(c, h)
		for range 3 {
			h = limit.Next(c, h, random(r), int64(random(r)))
		}
		limit.Next(randomConf(r), h, random(r), int64(random(r)))
	}
}
