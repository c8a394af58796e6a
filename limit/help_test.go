package limit_test

import (
	"fmt"
	"math"
	"math/rand/v2"
	"testing"

	"governor/api"
	"governor/event"
	"governor/limit"
)

const (
	mostRep  = 1000
	mostTime = 1 << 40
)

// call is what Next is asked.
type call struct {
	c    api.Conf
	h    api.Hold
	want int
	now  int64
}

func (c call) next() api.Hold { return limit.Next(c.c, c.h, c.want, c.now) }

func (c call) String() string {
	return fmt.Sprintf("Next of %s, %+v, %d wanted, time %d", quoted(c.c), c.h, c.want, c.now)
}

func quoted(c api.Conf) string {
	return fmt.Sprintf("Min %d, Max %d, Rate %d, Stable %d", c.Min, c.Max, c.Rate, c.Stable)
}

// saysInto is O1's Into by the chapter's words.
func saysInto(c api.Conf, h api.Hold) api.Hold {
	switch {
	case h.Cur < c.Min:
		h.Cur = c.Min
	case h.Cur > c.Max:
		h.Cur = c.Max
	}
	return h
}

// says is O1's Next by the chapter's words, one by one.
func says(x call) api.Hold {
	g, n := saysInto(x.c, x.h), x.want
	if n < g.Cur-x.c.Rate {
		n = g.Cur - x.c.Rate
	}
	if n > g.Cur+x.c.Rate {
		n = g.Cur + x.c.Rate
	}
	if n < x.c.Min {
		n = x.c.Min
	}
	if n > x.c.Max {
		n = x.c.Max
	}
	if n < g.Cur && g.Grew && x.now-g.Last < x.c.Stable {
		n = g.Cur
	}
	if n > g.Cur {
		return api.Hold{Cur: n, Last: x.now, Grew: true}
	}
	return api.Hold{Cur: n, Last: g.Last, Grew: g.Grew}
}

func wantNext(t *testing.T, c call, want api.Hold) {
	if got := c.next(); got != want {
		t.Helper()
		t.Errorf("%v is %+v, not %+v", c, got, want)
	}
}

func wantInto(t *testing.T, c api.Conf, h, want api.Hold) {
	if got := limit.Into(c, h); got != want {
		t.Helper()
		t.Errorf("Into of %s, %+v is %+v, not %+v", quoted(c), h, got, want)
	}
}

// asSaid asks both calls for what the words say.
func asSaid(t *testing.T, c call) {
	t.Helper()
	wantInto(t, c.c, c.h, saysInto(c.c, c.h))
	wantNext(t, c, says(c))
}

// mayBe asks whether a configuration is right, so that no test asks for the answers of others unawares.
func mayBe(t *testing.T, c api.Conf) {
	if !event.Conf(c) {
		t.Helper()
		t.Fatalf("there may be no configuration %+v", c)
	}
}

// conf is a configuration of these four numbers, and of ordinary ones beside.
func conf(least, most, rate int, stable int64) api.Conf {
	return api.Conf{Min: least, Max: most, Rate: rate, Stable: stable, Cap: 100, Delay: 1, Slack: 50, Window: 4, Margin: 2, Ceil: 1, Probe: 3, Breach: 1}
}

// grown is so many replicas, that grew at a time the last time.
func grown(cur int, last int64) api.Hold { return api.Hold{Cur: cur, Last: last, Grew: true} }

// never is so many replicas, that never grew.
func never(cur int) api.Hold { return api.Hold{Cur: cur} }

// confs is ordinary ones, and those at the bounds of each of the numbers.
func confs() []api.Conf {
	var all []api.Conf
	for _, within := range [][2]int{{1, 1}, {1, 2}, {1, 20}, {3, 9}, {7, 7}, {1, 999}, {1, mostRep}, {2, mostRep}, {500, 600}, {999, mostRep}, {mostRep, mostRep}} {
		for _, rate := range []int{1, 2, 4, 50, 999, mostRep} {
			for _, stable := range []int64{0, 1, 3, mostTime - 1, mostTime} {
				all = append(all, conf(within[0], within[1], rate, stable))
			}
		}
	}
	return all
}

// farAway is the least and the greatest int, and those beside and close to them.
func farAway() []int {
	return []int{math.MinInt, math.MinInt + 1, math.MinInt + 2, math.MinInt + mostRep, math.MinInt + mostRep + 1, -mostTime, math.MaxInt - mostRep - 1, math.MaxInt - mostRep, math.MaxInt - 2, math.MaxInt - 1, math.MaxInt}
}

// replicas is how many there may have been by a configuration: its bounds, those between them, and those beyond.
func replicas(c api.Conf) []int {
	return append(farAway(), -mostRep, -1, 0, c.Min-1, c.Min, c.Min+1, c.Min+c.Rate, (c.Min+c.Max)/2, c.Max-c.Rate, c.Max-1, c.Max, c.Max+1, 2*mostRep)
}

// wanted is how many may be wanted of so many that there are within bounds: just at each bound, and beside it.
func wanted(c api.Conf, cur int) []int {
	all := farAway()
	for _, n := range []int{-mostRep, 0, cur - c.Rate, c.Min, cur, c.Max, cur + c.Rate, mostRep} {
		all = append(all, n-1, n, n+1)
	}
	return all
}

// since is a time of the last growth, and one that is now.
type since struct{ last, now int64 }

// times is those that may be, from Stable behind a growth on ahead of it: just that, one short of it, one beyond it, and at the bounds of all times.
func times(stable int64) []since {
	var all []since
	for _, last := range []int64{0, 1, 1000, mostTime / 2, mostTime - 1, mostTime} {
		for _, now := range []int64{0, last - 1, last, last + 1, last + stable/2, last + stable - 1, last + stable, last + stable + 1, mostTime - 1, mostTime} {
			if now >= 0 && now <= mostTime {
				all = append(all, since{last, now})
			}
		}
	}
	return all
}

// edges asks f for configurations at all bounds, with holds and with what is wanted at all bounds, at times within Stable and behind it.
func edges(t *testing.T, f func(x call)) {
	for _, c := range confs() {
		mayBe(t, c)
		for _, cur := range replicas(c) {
			for _, want := range wanted(c, saysInto(c, never(cur)).Cur) {
				for _, now := range []int64{0, 5, 5 + c.Stable/2, mostTime} {
					f(call{c, never(cur), want, now})
					f(call{c, grown(cur, 5), want, now})
				}
			}
		}
	}
}

// small asks f for all small configurations, with all small holds.
func small(t *testing.T, f func(c api.Conf, h api.Hold)) {
	for most := 1; most <= 5; most++ {
		for least := 1; least <= most; least++ {
			for rate := 1; rate <= 5; rate++ {
				for stable := range int64(4) {
					c := conf(least, most, rate, stable)
					mayBe(t, c)
					for cur := -1; cur <= most+2; cur++ {
						f(c, never(cur))
						f(c, api.Hold{Cur: cur, Last: 2})
						f(c, grown(cur, 0))
						f(c, grown(cur, 2))
					}
				}
			}
		}
	}
}

// random is a number of any size, on either side.
func random(r *rand.Rand) int { return int(r.Uint64()) >> r.IntN(64) }

// near is one that is a few beside a number, or it.
func near(r *rand.Rand, n int) int { return n + r.IntN(5) - 2 }

// between is one from least to most, often one of these two or close to it.
func between[N int | int64](r *rand.Rand, least, most N) N {
	n := N(r.Int64N(int64(most-least)+1) >> r.IntN(41))
	if r.IntN(3) == 0 {
		return most - n
	}
	return least + n
}

// randomConf is any that is right.
func randomConf(r *rand.Rand) api.Conf {
	most := between(r, 1, mostRep)
	return api.Conf{
		Min: between(r, 1, most), Max: most, Rate: between(r, 1, mostRep), Stable: between[int64](r, 0, mostTime),
		Cap: between[int64](r, 1, 1000000), Delay: between(r, 0, 8), Slack: between[int64](r, 0, 1000000000),
		Window: between(r, 1, 32), Margin: between[int64](r, 0, 1000000000), Ceil: between(r, 0, 32), Probe: between(r, 1, 32), Breach: between(r, 0, 32),
	}
}

// randomHold is one of any number, mostly within the bounds, that grew at any time, or never.
func randomHold(r *rand.Rand, c api.Conf) api.Hold {
	h := api.Hold{Cur: between(r, c.Min, c.Max), Last: between[int64](r, 0, mostTime), Grew: r.IntN(4) > 0}
	switch r.IntN(8) {
	case 0:
		h.Cur = random(r)
	case 1:
		h.Cur = near(r, c.Min)
	case 2:
		h.Cur = near(r, c.Max)
	}
	return h
}

// randomWant is one of any number, often close to a bound.
func randomWant(r *rand.Rand, c api.Conf, cur int) int {
	switch r.IntN(6) {
	case 0:
		return random(r)
	case 1:
		return between(r, c.Min, c.Max)
	}
	return near(r, []int{c.Min, c.Max, cur - c.Rate, cur, cur + c.Rate}[r.IntN(5)])
}

// randomNow is any time that may be, often close to where Stable is over behind a growth.
func randomNow(r *rand.Rand, c api.Conf, last int64) int64 {
	if r.IntN(3) == 0 {
		return between[int64](r, 0, mostTime)
	}
	return max(0, min(int64(near(r, int(last+c.Stable))), mostTime))
}

func randomCall(r *rand.Rand) call {
	c := randomConf(r)
	h := randomHold(r, c)
	return call{c, h, randomWant(r, c, saysInto(c, h).Cur), randomNow(r, c, h.Last)}
}
