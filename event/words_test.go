package event_test

import (
	"bytes"
	"math"
	"math/rand/v2"
	"slices"
	"testing"

	"governor/api"
	"governor/event"
)

// P9.1: all that is asked, held against the chapter's words.

// unlikeOf tells where the program asks of an event something else than the words do.
func unlikeOf(e api.Event) string {
	switch {
	case event.Right(e) != saysRight(e):
		return "Right"
	case event.Policy(e.Pol) != saysPolicy(e.Pol):
		return "Policy"
	case event.Conf(e.Conf) != saysConf(e.Conf):
		return "Conf"
	case !bytes.Equal(event.Put(e), saysPut(e)):
		return "Put"
	}
	return ""
}

// altered is an event of which some leaves, or the kinds, are other ones.
func altered(r *rand.Rand, e api.Event) api.Event {
	e.Pol.Bands, e.Pol.Slots = slices.Clone(e.Pol.Bands), slices.Clone(e.Pol.Slots)
	for range r.IntN(3) {
		l := leaves(&e)
		one := l[r.IntN(len(l))]
		if one.isList() {
			one.set(r.Int64N(10))
			continue
		}
		one.set(oneEdge(r))
	}
	alterRows(r, &e.Pol)
	if r.IntN(10) == 0 {
		e.Kind = r.IntN(11) - 1
	}
	if r.IntN(10) == 0 {
		e.Pol.Kind = r.IntN(7) - 1
	}
	return e
}

func alterRows(r *rand.Rand, p *api.Policy) {
	if n := len(p.Bands); n > 0 && r.IntN(3) == 0 {
		p.Bands[r.IntN(n)].Above = oneEdge(r)
	}
	if n := len(p.Bands); n > 0 && r.IntN(3) == 0 {
		p.Bands[r.IntN(n)].Delta = int(oneEdge(r))
	}
	if n := len(p.Slots); n > 0 && r.IntN(3) == 0 {
		p.Slots[r.IntN(n)].From = oneEdge(r)
	}
	if n := len(p.Slots); n > 0 && r.IntN(3) == 0 {
		p.Slots[r.IntN(n)].N = int(oneEdge(r))
	}
}

// oneEdge is a number at one of all bounds, or beside it.
func oneEdge(r *rand.Rand) int64 {
	l := []int64{0, 0, 1, 3, 8, 32, 1000, -1000, 1e6, 1e9, -1e9, 1 << 40, 1 << 32, math.MaxInt64 - 1, math.MinInt64 + 1}
	return l[r.IntN(len(l))] + r.Int64N(3) - 1
}

func TestAnyEvents(t *testing.T) {
	r := rand.New(rand.NewPCG(9, 20))
	right := 0
	for range 100000 {
		e := altered(r, anyEvent(r))
		if wrong := unlikeOf(e); wrong != "" {
			t.Fatalf("%s of %v", wrong, e)
		}
		if saysRight(e) {
			right++
		}
	}
	if right < 10000 || right > 90000 {
		t.Errorf("%d were right, which asks too little", right)
	}
}

// Policies and configurations by themselves, which no event need have.
func TestAnyPoliciesAndConfs(t *testing.T) {
	r := rand.New(rand.NewPCG(9, 21))
	for range 60000 {
		e := altered(r, api.Event{Pol: anyPolicy(r), Conf: anyConf(r)})
		if wrong := unlikeOf(e); wrong != "" {
			t.Fatalf("%s of %v", wrong, e)
		}
		e.Kind = 1 + r.IntN(8)
		if wrong := unlikeOf(ownOf(e)); wrong != "" {
			t.Fatalf("%s of %v", wrong, ownOf(e))
		}
	}
}

// damaged is bytes of which some are others, or gone, or twice there.
func damaged(r *rand.Rand, b []byte) []byte {
	b = bytes.Clone(b)
	for range r.IntN(4) {
		if len(b) == 0 {
			return b
		}
		i := r.IntN(len(b))
		switch r.IntN(4) {
		case 0:
			b[i] = byte(r.IntN(256))
		case 1:
			b[i] = byte(r.IntN(20))
		case 2:
			b = slices.Delete(b, i, i+1)
		case 3:
			b = slices.Insert(b, i, byte(r.IntN(256)))
		}
	}
	return b
}

func TestDamagedBytes(t *testing.T) {
	r := rand.New(rand.NewPCG(9, 22))
	for range 100000 {
		e := anyEvent(r)
		if len(e.Body) > 100 {
			e.Body = e.Body[:100]
		}
		kind := e.Kind
		if r.IntN(10) == 0 {
			kind = r.IntN(11) - 1
		}
		if wrong := unlike(kind, damaged(r, bytesOf(altered(r, e)))); wrong != "" {
			t.Fatal(wrong)
		}
	}
}

// Any bytes: all rows of up to two, and rows at random, most of them of small numbers, so that they are something now and then.
func TestEachRowOfTwoBytes(t *testing.T) {
	for _, kind := range kinds()[:12] {
		wantHeld(t, kind, nil)
		for a := range 256 {
			wantHeld(t, kind, []byte{byte(a)})
			for b := range 256 {
				wantHeld(t, kind, []byte{byte(a), byte(b)})
			}
		}
	}
}

func TestAnyBytes(t *testing.T) {
	r := rand.New(rand.NewPCG(9, 23))
	low := []byte{0, 0, 0, 0, 0, 2, 2, 2, 4, 6, 8, 1, 3, 10, 16, 18, 64, 66, 127, 128, 129, 255}
	for range 300000 {
		b := randomBytes(r, r.IntN(16))
		if r.IntN(8) > 0 {
			for i := range b {
				b[i] = low[r.IntN(len(low))]
			}
		}
		for _, kind := range []int{r.IntN(11) - 1, api.InPolicy} {
			if wrong := unlike(kind, b); wrong != "" {
				t.Fatal(wrong)
			}
		}
	}
}

// Rows of numbers as those of a policy, of each small number: what they are is told by a handful of them.
func TestEachSmallPolicy(t *testing.T) {
	for _, id := range []byte{0, 2, 8} {
		for kind := byte(0); kind <= 10; kind += 2 {
			for _, target := range []byte{0, 2, 1} {
				for _, period := range []byte{0, 2, 4} {
					for _, rows := range smallRows() {
						for _, behind := range smallRows() {
							b := slices.Concat([]byte{id, kind, target}, rows, []byte{0, 0, 0, period}, behind)
							wantHeld(t, api.InPolicy, b)
						}
					}
				}
			}
		}
	}
}

// smallRows is counts of up to two rows, and those, whose numbers are -1 to 2.
func smallRows() [][]byte {
	l := [][]byte{{0}, {3}, {18}}
	for first := range byte(5) {
		l = append(l, []byte{2, first, 2}, []byte{2, 0, first})
		for next := range byte(5) {
			l = append(l, []byte{4, first, 0, next, 2})
		}
	}
	return l
}
