package policy_test

import (
	"math"
	"testing"

	"governor/api"
	"governor/policy"
)

// P14.1, N1: the chapter's example, and other numbers of replicas by the same policy.
func TestExample(t *testing.T) {
	wantNext(t, call{cur: 4}, api.State{}, 4)
	for _, cur := range []int{0, 1, 2, 500, 998, 999, 1000} {
		wantNext(t, call{cur: cur, util: 900, t: 9}, api.State{}, cur)
		wantNext(t, call{cur: cur, s: behind(5, 6), util: -900, t: -9}, behind(5, 6), cur)
	}
}

// P14.1, N1: only the policy whose Kind is 0 is the zero one, whatever else others have.
func TestZero(t *testing.T) {
	for _, p := range []api.Policy{{}, {Bands: []api.Band{}}, {Slots: []api.Slot{}}} {
		if !policy.Zero(p) {
			t.Errorf("%+v is not the zero policy", p)
		}
	}
	for _, p := range policies() {
		mayBe(t, p)
		if policy.Zero(p) != (p.Kind == 0) {
			t.Errorf("Zero of %+v is %v", p, policy.Zero(p))
		}
	}
	for _, kind := range []int{1, 2, 3, 4, 5, -1, 256, 1 << 32, math.MaxInt, math.MinInt} {
		if policy.Zero(api.Policy{Kind: kind}) {
			t.Error("the zero policy has the kind", kind)
		}
	}
}

// row is how many there are, at a load and a time, and how many are wanted.
type row struct {
	cur  int
	util int64
	t    int64
	want int
}

// rows asks one policy, that carries on what came.
func rows(t *testing.T, p api.Policy, l []row) {
	t.Helper()
	mayBe(t, p)
	for _, c := range l {
		for _, s := range []api.State{{}, behind(5, -6)} {
			wantNext(t, call{p, s, c.cur, c.util, c.t}, s, c.want)
		}
	}
}

// P14.1, N1: ordinary numbers of a PolTrack, and those at its bounds.
func TestTrack(t *testing.T) {
	rows(t, tracks(600), []row{{4, 900, 9, 6}, {4, 901, 9, 7}, {4, 600, 9, 4}, {4, 300, 9, 2}, {4, 1, 9, 1}, {4, 0, 9, 0}, {4, -900, 9, 0}, {0, 900, 9, 0}, {1000, 600, 9, 1000}, {1000, 599, 9, 999}})
	rows(t, tracks(1), []row{{4, 1, 0, 4}, {4, 2, 0, 8}, {4, 250, 0, 1000}, {4, 251, 0, 1000}, {1, 999, 0, 999}, {1000, 1, 0, 1000}, {0, 1, 0, 0}})
	rows(t, tracks(mostFix), []row{{4, mostFix, 0, 1}, {1, mostFix, 0, 1}, {1, 0, 0, 0}, {1000, mostFix, 0, 1}, {4, math.MaxInt64, 0, 1}, {4, math.MinInt64, 0, 0}})
}

// P14.1, N1: ordinary numbers of a PolStep, and those at its bounds.
func TestStep(t *testing.T) {
	rows(t, steps(api.Band{Delta: -1}, api.Band{Above: 800, Delta: 2}), []row{{4, 900, 9, 6}, {4, 800, 9, 6}, {4, 799, 9, 3}, {4, 0, 9, 3}, {4, -1, 9, 4}, {0, 799, 9, 0}, {1, 799, 9, 0}, {999, 800, 9, 1000}, {998, 800, 9, 1000}, {997, 800, 9, 999}})
	rows(t, steps(api.Band{Delta: -1000}, api.Band{Above: mostFix, Delta: 1000}), []row{{1000, 0, 0, 0}, {999, mostFix - 1, 0, 0}, {0, mostFix, 0, 1000}, {1, mostFix, 0, 1000}, {7, math.MaxInt64, 0, 1000}, {7, math.MinInt64, 0, 7}})
	rows(t, manyBands(), []row{{500, -1, 0, 500}, {500, 0, 0, 0}, {500, 1, 0, 400}, {500, 9, 0, 400}, {500, 10, 0, 490}, {500, 300, 0, 499}, {500, 600, 0, 500}, {500, 900, 0, 505}, {500, 1999, 0, 505}, {500, 2000, 0, 570}, {500, mostFix, 0, 1000}})
}

// P14.1, N1: ordinary numbers of a PolSched, and those at its bounds.
func TestSched(t *testing.T) {
	rows(t, scheds(4, api.Slot{N: 3}, api.Slot{From: 2, N: 8}), []row{{4, 900, 9, 3}, {4, 900, 10, 8}, {4, 900, 11, 8}, {4, 900, 12, 3}, {4, 900, -1, 8}, {4, 900, -2, 8}, {4, 900, -3, 3}, {0, 0, 0, 3}, {1000, 0, 0, 3}, {0, 0, 2, 8}})
	rows(t, scheds(1, api.Slot{N: 1000}), []row{{0, 0, 0, 1000}, {4, 1, 1, 1000}, {4, 1, math.MinInt64, 1000}, {4, 1, math.MaxInt64, 1000}})
	rows(t, scheds(mostTime, api.Slot{}, api.Slot{From: 1, N: 1000}, api.Slot{From: mostTime - 1, N: 999}), []row{{4, 0, 0, 0}, {4, 0, 1, 1000}, {4, 0, mostTime - 2, 1000}, {4, 0, mostTime - 1, 999}, {4, 0, mostTime, 0}, {4, 0, -1, 999}, {4, 0, -mostTime, 0}, {4, 0, math.MinInt64, 0}, {4, 0, math.MaxInt64, 999}})
}

// P14.1, N1: ordinary numbers of a PolPid, and those at its bounds; what it carries on is another one.
func TestPid(t *testing.T) {
	for _, c := range []struct {
		p    api.Policy
		s    api.State
		cur  int
		util int64
		next api.State
		want int
	}{
		{pids(500, 5000, 0, 0), api.State{}, 4, 900, behind(400, 400), 6},
		{pids(500, -5000, 0, 0), api.State{}, 4, 900, behind(400, 400), 2},
		{pids(500, -5000, 0, 0), api.State{}, 1, 900, behind(400, 400), 0},
		{pids(500, 5000, 0, 0), api.State{}, 999, 900, behind(400, 400), 1000},
		{pids(500, 5000, 0, 0), api.State{}, 4, 500, behind(0, 0), 4},
		{pids(500, 0, 1000, 0), behind(2600, 9), 4, 900, behind(3000, 400), 7},
		{pids(500, 0, 1000, 0), api.State{Sum: 2600, Prev: 9}, 4, 900, behind(3000, 400), 7},
		{pids(500, 0, 0, 1000), behind(7, -1600), 4, 900, behind(407, 400), 6},
		{pids(500, 0, 0, 1000), api.State{Sum: 7, Prev: -1600}, 4, 900, behind(407, 400), 4},
		{pids(500, 0, 0, 0), behind(7, -1600), 4, 900, behind(407, 400), 4},
		{pids(1, mostFix, mostFix, mostFix), api.State{}, 4, 2, behind(1, 1), 1000},
		{pids(1, mostFix, mostFix, mostFix), api.State{}, 4, 0, behind(-1, -1), 0},
		{pids(1, mostFix, 0, 0), api.State{}, 4, 1, behind(0, 0), 4},
		{pids(mostFix, 1000, 0, 0), api.State{}, 4, mostFix, behind(0, 0), 4},
		{pids(mostFix, -mostFix, -mostFix, -mostFix), api.State{}, 4, mostFix - 1, behind(-1, -1), 1000},
		{pids(1, 1, 0, 0), behind(math.MaxInt64, 0), 4, math.MaxInt64, behind(mostFix, mostFix-1), 1000},
		{pids(1, 1, 0, 0), behind(math.MinInt64, 0), 4, math.MinInt64, behind(-mostFix, -mostFix), 0},
	} {
		mayBe(t, c.p)
		for _, at := range []int64{0, 9, -1, math.MinInt64, math.MaxInt64} {
			wantNext(t, call{c.p, c.s, c.cur, c.util, at}, c.next, c.want)
		}
	}
}

// beyond asks a policy, with any number of replicas that there may not be, for what it wants of none, and of as many as there may be.
func beyond(t *testing.T, p api.Policy, s api.State, next api.State, ofNone, ofAll int) {
	t.Helper()
	mayBe(t, p)
	for _, cur := range []int{0, -1, -2, -5, -1000, -1001, -mostFix, math.MinInt + 1001, math.MinInt + 1, math.MinInt} {
		wantNext(t, call{p, s, cur, 2000, 9}, next, ofNone)
	}
	for _, cur := range []int{1000, 1001, 1002, 1005, 2000, 2001, mostFix, math.MaxInt - 1001, math.MaxInt - 1, math.MaxInt} {
		wantNext(t, call{p, s, cur, 2000, 9}, next, ofAll)
	}
}

// P14.1, N1: how many there are is taken into its bounds ahead of all else, by each kind.
func TestReplicasBeyond(t *testing.T) {
	s := behind(5, 6)
	beyond(t, api.Policy{}, s, s, 0, 1000)
	beyond(t, tracks(2000), s, s, 0, 1000)
	beyond(t, tracks(4000), s, s, 0, 500)
	beyond(t, tracks(1), s, s, 0, 1000)
	for _, c := range []struct{ n, ofNone, ofAll int }{{0, 0, 1000}, {1, 1, 1000}, {5, 5, 1000}, {999, 999, 1000}, {1000, 1000, 1000}, {-1, 0, 999}, {-5, 0, 995}, {-999, 0, 1}, {-1000, 0, 0}} {
		beyond(t, steps(api.Band{Delta: c.n}), s, s, c.ofNone, c.ofAll)
		beyond(t, adds(c.n), s, behind(1005, 1000), c.ofNone, c.ofAll)
		beyond(t, adds(c.n), api.State{Sum: 5}, behind(1005, 1000), c.ofNone, c.ofAll)
	}
	beyond(t, steps(api.Band{Above: 2001, Delta: 7}), s, s, 0, 1000)
	beyond(t, scheds(10, api.Slot{N: 7}), s, s, 7, 7)
	beyond(t, scheds(10, api.Slot{N: 7}, api.Slot{From: 9}), s, s, 0, 0)
	beyond(t, scheds(10, api.Slot{N: 7}, api.Slot{From: 9, N: 1000}), s, s, 1000, 1000)
}

// P14.1, N1: what a PolPid and a PolStep add is counted from how many there are, just to a bound, one short of it and one beyond it, and as far beyond as may be.
func TestAddedAtTheBounds(t *testing.T) {
	for _, c := range []struct{ cur, n, want int }{
		{4, -3, 1}, {4, -4, 0}, {4, -5, 0}, {4, -1000, 0}, {500, -499, 1}, {500, -500, 0}, {500, -501, 0}, {0, 0, 0}, {0, -1, 0}, {0, 1, 1}, {0, -1000, 0}, {1, -1, 0}, {1, -2, 0}, {1, -1000, 0}, {999, -1000, 0}, {1000, -1000, 0}, {1000, -999, 1}, {999, -998, 1}, {999, -999, 0},
		{996, 3, 999}, {996, 4, 1000}, {996, 5, 1000}, {996, 1000, 1000}, {500, 499, 999}, {500, 500, 1000}, {500, 501, 1000}, {1000, 0, 1000}, {1000, 1, 1000}, {1000, -1, 999}, {1000, 1000, 1000}, {999, 0, 999}, {999, 1, 1000}, {999, 2, 1000}, {999, 1000, 1000}, {0, 999, 999}, {0, 1000, 1000}, {1, 998, 999}, {1, 999, 1000}, {1, 1000, 1000},
	} {
		wantNext(t, call{p: adds(c.n), cur: c.cur, util: 2000}, behind(1000, 1000), c.want)
		wantNext(t, call{p: steps(api.Band{Delta: c.n}), cur: c.cur, util: 2000}, api.State{}, c.want)
	}
}

// P14.1, N1: what the other kinds want, at the bounds of how many there may be, one short of each, and one beyond it.
func TestWantedAtTheBounds(t *testing.T) {
	for _, c := range []struct {
		util int64
		want int
	}{
		{-1, 0}, {0, 0}, {1, 1}, {100, 1}, {101, 2}, {99800, 998}, {99801, 999}, {99900, 999}, {99901, 1000}, {100000, 1000}, {100001, 1000}, {100100, 1000}, {100101, 1000}, {200000, 1000}, {mostFix, 1000}, {math.MaxInt64, 1000},
	} {
		wantNext(t, call{p: tracks(1000), cur: 10, util: c.util}, api.State{}, c.want)
	}
	for _, n := range []int{0, 1, 2, 998, 999, 1000} {
		p := scheds(2, api.Slot{N: 1000 - n}, api.Slot{From: 1, N: n})
		mayBe(t, p)
		for _, cur := range replicas() {
			wantNext(t, call{p: p, cur: cur, util: 2000, t: 1}, api.State{}, n)
			wantNext(t, call{p: p, cur: cur, util: 2000, t: 2}, api.State{}, 1000-n)
		}
	}
	for _, cur := range []int{-1, 0, 1, 999, 1000, 1001} {
		wantNext(t, call{cur: cur, util: 2000}, api.State{}, max(0, min(cur, 1000)))
	}
}

// P14.1, N1: every number of replicas, with some that are added, by those that add, and by those that leave them alone.
func TestEveryNumber(t *testing.T) {
	for cur := -3; cur <= mostRep+3; cur++ {
		from := max(0, min(cur, 1000))
		wantNext(t, call{cur: cur, util: 2000}, api.State{}, from)
		wantNext(t, call{p: tracks(2000), cur: cur, util: 2000}, api.State{}, from)
		wantNext(t, call{p: tracks(1000), cur: cur, util: 2000}, api.State{}, min(2*from, 1000))
		for _, n := range []int{-1000, -999, -500, -2, -1, 0, 1, 3, 500, 999, 1000} {
			want := max(0, min(from+n, 1000))
			wantNext(t, call{p: adds(n), cur: cur, util: 2000}, behind(1000, 1000), want)
			wantNext(t, call{p: steps(api.Band{Delta: n}), cur: cur, util: 2000}, api.State{}, want)
		}
	}
	for n := range mostRep + 1 {
		wantNext(t, call{p: scheds(1, api.Slot{N: n}), cur: mostRep - n}, api.State{}, n)
		wantNext(t, call{p: adds(n)}, behind(-1000, -1000), 0)
		wantNext(t, call{p: adds(-n)}, behind(-1000, -1000), n)
	}
}

// P14.1, N1: loads one by one, each of what the one ahead carried on, and of as many replicas as it wanted.
func TestInARow(t *testing.T) {
	p, s, cur := pids(500, 5000, 1000, 2000), api.State{}, 4
	for _, c := range []struct {
		util int64
		next api.State
		want int
	}{
		{900, behind(400, 400), 6},
		{700, behind(600, 200), 7},
		{100, behind(200, -400), 4},
		{500, behind(200, 0), 5},
		{500, behind(200, 0), 5},
		{0, behind(-300, -500), 1},
		{0, behind(-800, -500), 0},
		{2500, behind(1200, 2000), 16},
		{500000, behind(500700, 499500), 1000},
		{500, behind(500700, 0), 502},
	} {
		wantNext(t, call{p, s, cur, c.util, 9}, c.next, c.want)
		s, cur = call{p, s, cur, c.util, 9}.next()
	}
}

// P14.1, N1: so it is where the policy is another one on the way: those that carry nothing on leave what was carried on to the next one.
func TestInARowByManyPolicies(t *testing.T) {
	s, cur := api.State{Sum: 7, Prev: 900}, 4
	for _, c := range []struct {
		p       api.Policy
		util, t int64
		next    api.State
		want    int
	}{
		{tracks(600), 900, 0, api.State{Sum: 7, Prev: 900}, 6},
		{pids(500, 5000, 0, 9000), 900, 1, behind(407, 400), 8},
		{steps(api.Band{Delta: -1}, api.Band{Above: 800, Delta: 2}), 700, 2, behind(407, 400), 7},
		{api.Policy{}, 100, 3, behind(407, 400), 7},
		{pids(500, 0, 1000, 2000), 1500, 4, behind(1407, 1000), 10},
		{scheds(4, api.Slot{N: 3}, api.Slot{From: 2, N: 8}), 9, 5, behind(1407, 1000), 3},
		{tracks(600), 9, 6, behind(1407, 1000), 1},
		{pids(1000, 0, 0, 2000), 0, 7, behind(407, -1000), 0},
	} {
		wantNext(t, call{c.p, s, cur, c.util, c.t}, c.next, c.want)
		s, cur = call{c.p, s, cur, c.util, c.t}.next()
	}
}

// P1: policies that may not be, of any kind and of none, end, too, and do not panic; of what they answer nothing is said.
func TestWhatMayNotBe(t *testing.T) {
	bands := [][]api.Band{nil, {}, {{Above: -1, Delta: 1001}}, {{Above: 9, Delta: math.MaxInt}, {Above: 4, Delta: math.MinInt}}, {{Above: math.MaxInt64}, {Above: math.MinInt64}}, make([]api.Band, 10000)}
	slots := [][]api.Slot{nil, {}, {{From: 5, N: 1001}}, {{From: -1, N: math.MinInt}}, {{N: math.MaxInt}}, {{From: math.MaxInt64}, {From: math.MinInt64, N: -1}}, make([]api.Slot, 10000)}
	for _, kind := range []int{math.MinInt, -1, 0, 1, 2, 3, 4, 5, 8, 256, 1 << 32, math.MaxInt} {
		for _, n := range []int64{math.MinInt64, -mostFix - 1, -1, 0, 1, mostFix + 1, mostTime + 1, math.MaxInt64} {
			for i, slot := range slots {
				p := api.Policy{Kind: kind, Target: n, Kp: n, Ki: n, Kd: n, Period: n, Bands: bands[i%len(bands)], Slots: slot}
				policy.Zero(p)
				for _, cur := range []int{math.MinInt, -1, 0, 4, 1001, math.MaxInt} {
					for _, m := range []int64{math.MinInt64, -1, 0, 9, math.MaxInt64} {
						call{p, behind(n, m), cur, m, m}.next()
						call{p, api.State{}, cur, m, n}.next()
					}
				}
			}
		}
	}
}
