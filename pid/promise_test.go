package pid_test

import (
	"math/rand/v2"
	"slices"
	"sync"
	"testing"

	"governor/api"
	"governor/pid"
)

// carriedRight asks whether what is carried on is right, and whether so many may be wanted.
func carriedRight(t *testing.T, p api.Policy, s api.State, util int64) api.State {
	next, n := pid.Next(p, s, util)
	if next.Sum < -mostFix || next.Sum > mostFix || next.Prev < -mostFix || next.Prev > mostFix || !next.Has {
		t.Helper()
		t.Error(quoted(p, s, util), "carries on", next)
	}
	if n < -mostRep || n > mostRep {
		t.Helper()
		t.Error(quoted(p, s, util), "wants", n)
	}
	return next
}

// P12.2: what is carried on is never too great, of any policy, state and load.
func TestNeverTooGreat(t *testing.T) {
	l := edges()
	for _, a := range l {
		for _, b := range l {
			for _, has := range []bool{false, true} {
				carriedRight(t, of(a, b, b, b), api.State{Sum: b, Prev: a, Has: has}, b)
				carriedRight(t, of(a, b, a, b), api.State{Sum: a, Prev: b, Has: has}, b)
				carriedRight(t, of(-b, a, a, b), api.State{Sum: b, Prev: b, Has: has}, a)
			}
		}
	}
	r := rand.New(rand.NewPCG(12, 10))
	for range 200000 {
		carriedRight(t, randomPolicy(r), randomState(r), random(r))
	}
}

// P12.2: so it is with any loads in a row, from any state, also where all errors go one way.
func TestNeverTooGreatInARow(t *testing.T) {
	r := rand.New(rand.NewPCG(12, 11))
	for range 2000 {
		p, s := randomPolicy(r), randomState(r)
		mask := []int64{-1, 1<<62 - 1, 1<<30 - 1}[r.IntN(3)]
		for range 100 {
			s = carriedRight(t, p, s, random(r)&mask)
		}
	}
	for _, target := range far() {
		for _, util := range far() {
			p, s := of(target, 1, 1, 1), api.State{}
			for range 20 {
				s = carriedRight(t, p, s, util)
			}
		}
	}
}

// alone is the policy with one of its weights, by its place.
func alone(p api.Policy, at int) api.Policy {
	weights := [3]int64{}
	weights[at] = [3]int64{p.Kp, p.Ki, p.Kd}[at]
	return of(p.Target, weights[0], weights[1], weights[2])
}

// ownParts asks whether each weight alone wants its own part, and none wants nothing, while all carry on the same.
func ownParts(t *testing.T, p api.Policy, s api.State, util int64) {
	t.Helper()
	all := saysParts(p, s, util)
	wantNext(t, alone(p, 0), s, util, all.next, replicas(all.p))
	wantNext(t, alone(p, 1), s, util, all.next, replicas(all.i))
	wantNext(t, alone(p, 2), s, util, all.next, replicas(all.d))
	wantNext(t, of(p.Target, 0, 0, 0), s, util, all.next, 0)
}

// P12.3: each weight alone tells its own part, and with all of them 0 nothing is wanted, of any policy, state and load.
func TestEachAlone(t *testing.T) {
	r := rand.New(rand.NewPCG(12, 12))
	for range 40000 {
		p, s, util := fit(r)
		ownParts(t, p, s, util)
		ownParts(t, randomPolicy(r), randomState(r), random(r))
	}
	l := fewEdges()
	for _, a := range l {
		for _, b := range l {
			for _, c := range l {
				ownParts(t, of(a, b, b, b), api.State{Sum: c, Prev: a, Has: true}, c)
				ownParts(t, of(1, c, c, c), api.State{Sum: a, Prev: b}, b)
			}
		}
	}
}

// P12.3: a part by itself does not hang on what the other two are of: p on no state, i on no error ahead, d on no sum.
func TestAPartHangsOnItsOwn(t *testing.T) {
	r := rand.New(rand.NewPCG(12, 13))
	wanted := func(p api.Policy, s api.State, util int64) int {
		_, n := pid.Next(p, s, util)
		return n
	}
	for range 40000 {
		p, s, util := fit(r)
		other := randomState(r)
		if a, b := wanted(alone(p, 0), s, util), wanted(alone(p, 0), other, util); a != b {
			t.Error(quoted(alone(p, 0), s, util), "wants", a, "and with", other, "it wants", b)
		}
		other.Sum = s.Sum
		if a, b := wanted(alone(p, 1), s, util), wanted(alone(p, 1), other, util); a != b {
			t.Error(quoted(alone(p, 1), s, util), "wants", a, "and with", other, "it wants", b)
		}
		other = s
		other.Sum = random(r)
		if a, b := wanted(alone(p, 2), s, util), wanted(alone(p, 2), other, util); a != b {
			t.Error(quoted(alone(p, 2), s, util), "wants", a, "and with", other, "it wants", b)
		}
	}
}

// P12.3: with all weights 0 nothing is wanted by any loads in a row, and what is carried on goes on all the same.
func TestNoWeights(t *testing.T) {
	r := rand.New(rand.NewPCG(12, 14))
	for range 1000 {
		p, s := randomPolicy(r), randomState(r)
		weighed := s
		for range 30 {
			util := random(r)
			next, n := pid.Next(of(p.Target, 0, 0, 0), s, util)
			if n != 0 {
				t.Error("without weights", n, "are wanted of", s, "and load", util)
			}
			s = next
			weighed, _ = pid.Next(p, weighed, util)
			if s != weighed {
				t.Fatal("without weights", s, "is carried on, and with them", weighed)
			}
		}
	}
}

// mirrored asks, of the same state both ways round, whether both calls' errors are, too, and with them what is wanted and carried on.
func mirrored(t *testing.T, p api.Policy, s api.State, util int64, q api.Policy, qs api.State, qutil int64) (api.State, api.State) {
	t.Helper()
	next, n := pid.Next(p, s, util)
	other, m := pid.Next(q, qs, qutil)
	if next.Prev != -other.Prev || next.Sum != -other.Sum || n != -m || !next.Has || !other.Has {
		t.Error(quoted(p, s, util), "is", next, n, "and the other way round", quoted(q, qs, qutil), "it is", other, m)
	}
	return next, other
}

// round is a state the other way round.
func round(s api.State) api.State {
	return api.State{Sum: turned(s.Sum), Prev: turned(s.Prev), Has: s.Has}
}

// P12.4: with target and load the other way round, or in each other's place, the error is the other way round, and so is what is wanted, of any policy, state and load.
func TestMirror(t *testing.T) {
	r := rand.New(rand.NewPCG(12, 15))
	for range 50000 {
		p, s, util := fit(r)
		if r.IntN(2) == 0 {
			p, s, util = randomPolicy(r), randomState(r), random(r)
		}
		q := p
		q.Target = turned(p.Target)
		mirrored(t, p, s, util, q, round(s), turned(util))
		q.Target = util
		mirrored(t, p, s, util, q, round(s), p.Target)
	}
	l := fewEdges()
	for _, a := range l {
		for _, b := range l {
			for _, c := range l {
				s := api.State{Sum: c, Prev: a, Has: true}
				mirrored(t, of(a, c, b, a), s, b, of(b, c, b, a), round(s), a)
				mirrored(t, of(a, b, c, b), s, b, of(turned(a), b, c, b), round(s), turned(b))
			}
		}
	}
}

// P12.4: so it is with loads in a row by one policy, as far below its target as the other ones are above it.
func TestMirrorInARow(t *testing.T) {
	r := rand.New(rand.NewPCG(12, 16))
	for range 2000 {
		p, s, _ := fit(r)
		if r.IntN(2) == 0 {
			p = of(some(r, mostFix/2), random(r), random(r), random(r))
			s = randomState(r)
		}
		other := round(s)
		for range 40 {
			off := some(r, mostFix/2)
			s, other = mirrored(t, p, s, p.Target+off, p, other, p.Target-off)
		}
	}
}

// P12.4: so it is with loads in a row from nothing, of any size, with the target the other way round.
func TestMirrorFromNothing(t *testing.T) {
	r := rand.New(rand.NewPCG(12, 17))
	for range 2000 {
		p := randomPolicy(r)
		q := p
		q.Target = turned(p.Target)
		var s, other api.State
		for range 40 {
			util := random(r)
			s, other = mirrored(t, p, s, util, q, other, turned(util))
		}
	}
}

// P3: what is handed in is not changed, nor its spare room.
func TestNothingIsChanged(t *testing.T) {
	r := rand.New(rand.NewPCG(12, 18))
	for range 5000 {
		p, s, util := randomPolicy(r), randomState(r), random(r)
		bands := []api.Band{{Above: random(r), Delta: 3}, {Above: random(r), Delta: -4}, {Above: 9, Delta: 8}}
		slots := []api.Slot{{From: random(r), N: 3}, {From: random(r), N: 1}, {From: 7, N: 6}}
		wasBands, wasSlots := slices.Clone(bands), slices.Clone(slots)
		p.Bands, p.Slots = bands[:2], slots[:1]
		q, state := p, s
		pid.Next(p, s, util)
		if !slices.Equal(bands, wasBands) || !slices.Equal(slots, wasSlots) {
			t.Fatal("bands were", wasBands, "and are", bands, "and slots were", wasSlots, "and are", slots)
		}
		if s != state || len(p.Bands) != 2 || len(p.Slots) != 1 || q.Target != p.Target || q.Kp != p.Kp || q.Ki != p.Ki || q.Kd != p.Kd {
			t.Fatal("what was handed in is", p, s, "and was", q, state)
		}
	}
}

// P3: what is answered hangs on the arguments alone, and on no call ahead.
func TestOnItsArgumentsAlone(t *testing.T) {
	r := rand.New(rand.NewPCG(12, 19))
	for range 20000 {
		p, s, util := fit(r)
		next, n := pid.Next(p, s, util)
		pid.Next(randomPolicy(r), randomState(r), random(r))
		wantNext(t, p, s, util, next, n)
	}
}

// P3: so it is where many ask at a time.
func TestManyAtATime(t *testing.T) {
	l := edges()
	var group sync.WaitGroup
	for range 8 {
		group.Go(func() {
			for _, a := range l {
				for _, b := range l {
					asSaid(t, of(a, 5000, b, 2000), behind(b, a), 900)
				}
			}
		})
	}
	group.Wait()
}
