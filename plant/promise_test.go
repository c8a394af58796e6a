package plant_test

import (
	"math/rand/v2"
	"slices"
	"sync"
	"testing"

	"governor/api"
	"governor/plant"
)

// asMany is P16.2 of one call, and that the plant it tells is right again.
func asMany(t *testing.T, x call) {
	p, m := x.step()
	want := max(0, min(x.want, mostRep))
	if plant.All(p) != want || m.Cost != int64(want) {
		t.Helper()
		t.Errorf("%v has %d, at a cost of %d", x, plant.All(p), m.Cost)
	}
	if !right(p) || len(p.Start) > 0 && p.Start[len(p.Start)-1] == 0 {
		t.Helper()
		t.Errorf("%v is %+v, which may not be", x, p)
	}
}

// P16.2: behind a step there are as many as are wanted, at all edges.
func TestAsMany(t *testing.T) {
	edges(t, func(x call) { asMany(t, x) })
	small(func(x call) { asMany(t, x) })
}

// P16.2: so it is with many at random.
func TestAsManyAtRandom(t *testing.T) {
	r := rand.New(rand.NewPCG(16, 4))
	for range 50000 {
		x := randomCall(r)
		mayBe(t, x)
		asMany(t, x)
	}
}

// P16.3: those that begin are ready just so many steps later as the delay is, and not one sooner, if as many are wanted on.
func TestReadyLater(t *testing.T) {
	for delay := range 1 + mostDelay {
		c := conf(100, delay, 50)
		for _, before := range []int{0, 1, 7} {
			p := plant.New(before)
			for tick := range 2 * mostDelay {
				p, _ = plant.Step(c, p, before+5, 0)
				ready := before
				if tick >= delay {
					ready += 5
				}
				if p.Ready != ready || plant.All(p) != before+5 {
					t.Errorf("with the delay %d there is %+v, %d ticks behind the beginning of 5", delay, p, tick)
				}
			}
		}
	}
}

// P16.3: where more and more are wanted, so many are ready as there were so many steps ahead, at each of many steps.
func TestReadyAsThereWere(t *testing.T) {
	r := rand.New(rand.NewPCG(16, 5))
	for delay := range 1 + mostDelay {
		for range 50 {
			c := randomConf(r)
			c.Delay = delay
			n := r.IntN(10)
			p := plant.New(n)
			// Ahead of the first step there were as many as are ready in it.
			were := slices.Repeat([]int{n}, delay)
			for range 40 {
				n = min(n+r.IntN(30), mostRep)
				p, _ = plant.Step(c, p, n, between[int64](r, 0, mostDemand))
				were = append(were, n)
				if there := were[len(were)-1-delay]; p.Ready != there || plant.All(p) != n {
					t.Fatalf("with the delay %d there is %+v, and there were %d", delay, p, there)
				}
			}
		}
	}
}

// one is a replica: when it will be ready.
type one struct{ at int }

// P16.3: who begins is ready at the time that its delay told, whatever the delays of others are; those that would be ready last go first, of all that there are.
func TestEachReplica(t *testing.T) {
	r := rand.New(rand.NewPCG(16, 6))
	for range 400 {
		var all []one
		p := plant.New(0)
		for tick := range 60 {
			c := conf(100, r.IntN(1+mostDelay), 50)
			want := r.IntN(40)
			for len(all) < want {
				all = append(all, one{tick + c.Delay})
			}
			slices.SortFunc(all, func(a, b one) int { return max(a.at, tick) - max(b.at, tick) })
			all = all[:want]
			p, _ = plant.Step(c, p, want, 0)
			if said := standingAt(all, tick); standingOf(p) != said || !slices.Equal(p.Start, said.start()) {
				t.Fatalf("at the tick %d there is %+v, not %v", tick, p, said)
			}
		}
	}
}

// standingAt is how replicas stand at a tick.
func standingAt(all []one, tick int) standing {
	var s standing
	for _, x := range all {
		s[max(0, x.at-tick)]++
	}
	return s
}

// P16.3: while none go, none that began is ready later than it was to be, nor sooner; the load and what waits change nothing of that.
func TestLoadChangesNoReplicas(t *testing.T) {
	r := rand.New(rand.NewPCG(16, 7))
	for range 20000 {
		x := randomCall(r)
		p, _ := x.step()
		other := x
		other.c.Cap, other.c.Slack = between[int64](r, 1, mostDemand), between[int64](r, 0, mostFix)
		other.p.Wait, other.demand = between[int64](r, 0, mostFix), random(r)
		mayBe(t, other)
		if q, _ := other.step(); standingOf(p) != standingOf(q) {
			t.Errorf("%v has %+v, and %v has %+v", x, p, other, q)
		}
	}
}

// nothingLost is P16.4 of one call: what was there to do waits still, but for what could be done, and for what there was no room for.
func nothingLost(t *testing.T, x call) {
	p, _ := x.step()
	came := max(0, min(x.demand, mostDemand))
	there := min(x.p.Wait+came, mostFix)
	done, can := there-p.Wait, int64(p.Ready)*x.c.Cap
	if done < 0 || done > can || p.Wait > 0 && done < can {
		t.Helper()
		t.Errorf("%v has done %d of %d, and %d wait", x, done, can, p.Wait)
	}
}

// P16.4: nothing is lost, at all edges.
func TestNothingIsLost(t *testing.T) {
	edges(t, func(x call) { nothingLost(t, x) })
	small(func(x call) { nothingLost(t, x) })
}

// P16.4: so it is with many at random.
func TestNothingIsLostAtRandom(t *testing.T) {
	r := rand.New(rand.NewPCG(16, 8))
	for range 50000 {
		x := randomCall(r)
		mayBe(t, x)
		nothingLost(t, x)
	}
}

// P16.4: in rows of many steps all that came was done, or waits, to the last one; and what waits is done in the end, if nothing comes any more.
func TestNothingIsLostInRows(t *testing.T) {
	r := rand.New(rand.NewPCG(16, 9))
	for range 500 {
		c := randomConf(r)
		p, came, done := plant.New(r.IntN(10)), int64(0), int64(0)
		for range 40 {
			demand := between[int64](r, 0, mostDemand)
			came += demand
			p, _ = plant.Step(c, p, r.IntN(20), demand)
			// Who has less to do than it can do has done all.
			done += min(int64(p.Ready)*c.Cap, came-done)
			if came != done+p.Wait {
				t.Fatalf("%d came, %d are done, and %d wait", came, done, p.Wait)
			}
		}
		c.Cap = mostDemand
		for range 60 {
			p, _ = plant.Step(c, p, 2, -1)
		}
		if p.Wait != 0 {
			t.Errorf("%d wait still", p.Wait)
		}
	}
}

// P16.4: what waits grows by all that is not done, up to where there is no room for more.
func TestNoRoom(t *testing.T) {
	c := conf(7, 1, 50)
	p := plant.New(1)
	for tick := int64(1); tick <= 1100; tick++ {
		p, _ = plant.Step(c, p, 1, mostDemand)
		if wait := min(tick*(mostDemand-7), mostFix-7); p.Wait != wait {
			t.Fatalf("behind %d ticks %d wait, not %d", tick, p.Wait, wait)
		}
	}
}

// P16.1, Q2: what is told of a step hangs on Cap, Delay and Slack of a configuration, on no other number of it, and not on the load of the tick ahead.
func TestOtherNumbers(t *testing.T) {
	r := rand.New(rand.NewPCG(16, 10))
	for range 20000 {
		x := randomCall(r)
		next, mark := x.step()
		other := call{randomConf(r), x.p, x.want, x.demand}
		other.c.Cap, other.c.Delay, other.c.Slack = x.c.Cap, x.c.Delay, x.c.Slack
		other.p.Util = between[int64](r, 0, mostFix)
		// Noughts at the end say nothing, and nor does an empty list that is not nil.
		other.p.Start = append(slices.Clone(x.p.Start), make([]int, r.IntN(1+mostDelay-len(x.p.Start)))...)
		mayBe(t, other)
		wantStep(t, other, next, mark)
	}
	for _, c := range confs() {
		next, mark := plant.Step(c, of(3), 5, 70)
		wantStep(t, call{c, api.Plant{Ready: 3, Start: []int{}}, 5, 70}, next, mark)
	}
}

// P3: what is handed in stays as it was, and so does its spare room.
func TestWhatIsHandedInStays(t *testing.T) {
	r := rand.New(rand.NewPCG(16, 11))
	for range 20000 {
		x := randomCall(r)
		room := append(slices.Clone(x.p.Start), 71, 72, 73, 74, 75, 76, 77, 78, 79)
		kept := slices.Clone(room)
		x.p.Start = room[:len(x.p.Start)]
		x.step()
		plant.All(x.p)
		if !slices.Equal(room, kept) {
			t.Errorf("%v made %v of %v", x, room, kept)
		}
	}
}

// P3: what is handed out is one's own, with its spare room: what is written there is seen neither in what was handed in nor in what another call told.
func TestWhatIsHandedOutIsOnesOwn(t *testing.T) {
	r := rand.New(rand.NewPCG(16, 12))
	for range 20000 {
		x := randomCall(r)
		room := append(slices.Clone(x.p.Start), 71, 72, 73, 74, 75, 76, 77, 78, 79)
		kept := slices.Clone(room)
		x.p.Start = room[:len(x.p.Start)]
		first, mark := x.step()
		second, _ := x.step()
		all := second.Start[:cap(second.Start)]
		for place := range all {
			all[place] = -1
		}
		if !slices.Equal(room, kept) {
			t.Errorf("what %v told is not its own: %v", x, room)
		}
		wantStep(t, x, first, mark)
	}
}

// P3: what is answered hangs on the arguments, and not on the calls ahead.
func TestOnItsArgumentsAlone(t *testing.T) {
	r := rand.New(rand.NewPCG(16, 13))
	for range 20000 {
		x, ahead := randomCall(r), randomCall(r)
		next, mark := x.step()
		ahead.step()
		plant.New(ahead.want)
		wantStep(t, x, next, mark)
	}
}

// P3: so it is where many ask at a time, of one plant.
func TestManyAtATime(t *testing.T) {
	p := of(9, 1, 0, 3, 0, 5)
	var group sync.WaitGroup
	for i := range uint64(8) {
		group.Go(func() {
			r := rand.New(rand.NewPCG(16, 20+i))
			for range 2000 {
				x := randomCall(r)
				asSaid(t, x)
				x.p = p
				asSaid(t, x)
			}
		})
	}
	group.Wait()
}
