package event_test

import (
	"bytes"
	"math/rand/v2"
	"slices"
	"sync"
	"testing"

	"governor/api"
	"governor/event"
)

// P9.2: a right event is got from its bytes.
func TestThereAndBack(t *testing.T) {
	r := rand.New(rand.NewPCG(9, 10))
	for range 30000 {
		e := anyEvent(r)
		b := event.Put(e)
		got, f := event.Get(e.Kind, b)
		if !event.Right(e) || len(b) == 0 || len(b) > api.MaxBody {
			t.Fatalf("%v: %d bytes", e, len(b))
		}
		if f != api.OK || !alike(got, e) || !event.Right(got) {
			t.Fatalf("%v: back as %v, error %d", e, got, f)
		}
		if again := event.Put(got); !bytes.Equal(again, b) {
			t.Fatalf("%v: bytes %x, and then %x", e, b, again)
		}
	}
}

// P9.2: events of one kind that are not alike have other bytes, none the beginning of another one's.
func TestOtherBytes(t *testing.T) {
	r := rand.New(rand.NewPCG(9, 11))
	l := events()
	for range 300 {
		l = append(l, anyEvent(r))
	}
	for _, d := range l {
		for _, e := range l {
			if d.Kind == e.Kind && bytes.HasPrefix(event.Put(d), event.Put(e)) != alike(d, e) {
				t.Errorf("%v and %v: bytes %x and %x", d, e, event.Put(d), event.Put(e))
			}
		}
	}
}

// P9.2: what is got has just those bytes, whatever they are.
func TestJustThoseBytes(t *testing.T) {
	r := rand.New(rand.NewPCG(9, 12))
	got := map[int]int{}
	for range 300000 {
		kind := 1 + r.IntN(8)
		b := randomBytes(r, 1+r.IntN(4))
		if kind == api.InPolicy || kind == api.InConf {
			b = damaged(r, bytesOf(anyEvent(r)))
		}
		if e, f := event.Get(kind, b); f == api.OK {
			got[kind]++
			if !bytes.Equal(event.Put(e), b) || e.Kind != kind {
				t.Fatalf("kind %d of %x: %v, whose bytes are %x", kind, b, e, event.Put(e))
			}
		}
	}
	for kind := 1; kind <= 8; kind++ {
		if got[kind] < 50 {
			t.Errorf("kind %d was got %d times, which asks nothing", kind, got[kind])
		}
	}
}

// P3: with spare room behind it, a thing that is handed in is as it was, and so is its spare room.
func TestWhatIsHandedInStays(t *testing.T) {
	for _, e := range events() {
		bands := spare(e.Pol.Bands, api.Band{Above: 77, Delta: 7})
		slots := spare(e.Pol.Slots, api.Slot{From: 77, N: 7})
		body := spare(e.Body, 77)
		e.Pol.Bands, e.Pol.Slots, e.Body = bands[:len(e.Pol.Bands)], slots[:len(e.Pol.Slots)], body[:len(e.Body)]
		wasBands, wasSlots, wasBody := slices.Clone(bands), slices.Clone(slots), bytes.Clone(body)
		for _, kind := range kinds() {
			f := e
			f.Kind = kind
			event.Right(f)
			event.Put(f)
			f.Pol.Kind = kind
			event.Policy(f.Pol)
			event.Conf(f.Conf)
		}
		b := spare(bytesOf(e), 77)
		was := bytes.Clone(b)
		for _, kind := range kinds() {
			event.Get(kind, b[:len(b)-9])
		}
		if !slices.Equal(bands, wasBands) || !slices.Equal(slots, wasSlots) || !bytes.Equal(body, wasBody) || !bytes.Equal(b, was) {
			t.Errorf("%v: what was handed in has changed", e)
		}
	}
}

// spare is a list with nine rows behind it, which are its spare room.
func spare[T any](l []T, row T) []T {
	return append(slices.Clone(l), slices.Repeat([]T{row}, 9)...)
}

// P3: what comes out is new memory, its spare room too, and nothing that was handed in is kept.
func TestWhatComesOutIsNew(t *testing.T) {
	for _, e := range events() {
		first := event.Put(e)
		fill(first, 99)
		b := event.Put(e)
		want := bytesOf(e)
		if !bytes.Equal(b, want) {
			t.Errorf("%v: bytes %x behind a change of those ahead", e, b)
		}
		kept := bytes.Clone(b)
		got, _ := event.Get(e.Kind, kept)
		other, _ := event.Get(e.Kind, kept)
		fill(kept, 99)
		if !alike(got, e) {
			t.Errorf("%v: %v behind a change of its bytes", e, got)
		}
		kept = bytes.Clone(b)
		last, _ := event.Get(e.Kind, kept)
		fill(last.Body, 99)
		fill(last.Pol.Bands, api.Band{Above: 99})
		fill(last.Pol.Slots, api.Slot{From: 99})
		if !alike(got, e) || !alike(other, e) || !bytes.Equal(kept, want) {
			t.Errorf("%v: changed with what another call gave", e)
		}
		fill(e.Body, 98)
		fill(e.Pol.Bands, api.Band{Above: 98})
		fill(e.Pol.Slots, api.Slot{From: 98})
		if !bytes.Equal(b, want) {
			t.Error("bytes changed with the event that they were made of:", b)
		}
	}
}

// fill writes a list full, its spare room too.
func fill[T any](l []T, row T) {
	l = l[:cap(l)]
	for i := range l {
		l[i] = row
	}
}

// P3: what is asked ahead changes nothing: of bytes that are wrong, and of events that are.
func TestAnswersHangOnArgumentsAlone(t *testing.T) {
	r := rand.New(rand.NewPCG(9, 13))
	l := events()
	for range 3000 {
		e := l[r.IntN(len(l))]
		event.Get(r.IntN(10), damaged(r, bytesOf(e)))
		event.Put(altered(r, e))
		if b := event.Put(e); !bytes.Equal(b, bytesOf(e)) {
			t.Fatalf("%v: bytes %x", e, b)
		}
		if got, f := event.Get(e.Kind, bytesOf(e)); f != api.OK || !alike(got, e) {
			t.Fatalf("%v: back as %v, error %d", e, got, f)
		}
	}
}

// P3: also where many ask at a time, of one thing.
func TestManyAtATime(t *testing.T) {
	l := events()
	var group sync.WaitGroup
	for range 8 {
		group.Go(func() {
			for range 200 {
				for _, e := range l {
					b := event.Put(e)
					got, f := event.Get(e.Kind, b)
					if !event.Right(e) || f != api.OK || !alike(got, e) {
						t.Errorf("%v: back as %v, error %d", e, got, f)
					}
				}
			}
		})
	}
	group.Wait()
}
