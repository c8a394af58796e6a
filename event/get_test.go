package event_test

import (
	"bytes"
	"math"
	"math/rand/v2"
	"slices"
	"testing"

	"governor/api"
	"governor/event"
)

// P9.1, I2: what bytes are got.

// Every cut of an event's bytes ends too early.
func TestCuts(t *testing.T) {
	for _, e := range events() {
		b := bytesOf(e)
		for n := range b {
			wantGet(t, "a cut", e.Kind, b[:n], api.ErrEnd)
		}
	}
	long := api.Event{Kind: api.OutSnapshot, Body: make([]byte, 1700)}
	for _, n := range []int{0, 1, 2, 3, 1000, 1701} {
		wantGet(t, "a cut of a long text", long.Kind, bytesOf(long)[:n], api.ErrEnd)
	}
}

func TestBytesBehind(t *testing.T) {
	for _, e := range events() {
		for c := range 256 {
			wantGet(t, "one byte more", e.Kind, append(bytesOf(e), byte(c)), api.ErrForm)
		}
		wantGet(t, "twice", e.Kind, append(bytesOf(e), bytesOf(e)...), api.ErrForm)
		if e.Kind != api.OutSnapshot {
			wantGet(t, "many bytes more", e.Kind, append(bytesOf(e), make([]byte, 5000)...), api.ErrForm)
		}
	}
}

// Each byte turned, to each other one: what is got has just these bytes, or there is nothing.
func TestTurnedBytes(t *testing.T) {
	for _, e := range events() {
		b := bytesOf(e)
		for i := range b {
			for c := range 255 {
				turned := bytes.Clone(b)
				turned[i] ^= byte(c + 1)
				wantHeld(t, e.Kind, turned)
			}
		}
	}
}

// Bytes of one kind, got as each other one, and each byte of them taken out.
func TestBytesOfOtherKinds(t *testing.T) {
	for _, e := range events() {
		for _, kind := range kinds() {
			b := bytesOf(e)
			wantHeld(t, kind, b)
			for i := range b {
				wantHeld(t, kind, slices.Delete(bytes.Clone(b), i, i+1))
			}
		}
	}
}

// longer is numbers as bytes, the one at a place in so many bytes more than need be.
func longer(l []int64, at int, by int) []byte {
	b := written(l[:at]...)
	n := written(l[at])
	for range by {
		n[len(n)-1] |= 128
		n = append(n, 0)
	}
	return append(append(b, n...), written(l[at+1:]...)...)
}

func TestNumbersThatAreTooLong(t *testing.T) {
	for _, e := range events() {
		l := numbersOf(e)
		for i := range l {
			for by := 1; by <= 10; by++ {
				wantGet(t, "a number that is too long", e.Kind, append(longer(l, i, by), e.Body...), api.ErrForm)
			}
		}
	}
}

// Each number made another one, at the bounds and far beyond.
func TestOtherNumbers(t *testing.T) {
	for _, e := range events() {
		l := numbersOf(e)
		for i, own := range l {
			for _, n := range []int64{-1, 0, 1, 2, 3, 4, 5, 7, 8, 9, 20, 21, 31, 32, 33, 999, 1000, 1001, 1e6, 1e6 + 1, 1e9, 1e9 + 1, -1e9, -1e9 - 1, -1000, -1001, 1 << 32, 1<<32 + 1, 1 << 40, 1<<40 + 1, math.MaxInt64, math.MinInt64, own - 1, own + 1, -own} {
				other := slices.Clone(l)
				other[i] = n
				wantHeld(t, e.Kind, append(written(other...), e.Body...))
			}
		}
	}
}

// counted is the bytes of a policy that tells so many bands, and so many slots, with rows that go on being right as far as they may.
func counted(bands, ofBands, slots, ofSlots int64) []byte {
	l := []int64{1, 2, 0, bands}
	for i := range ofBands {
		l = append(l, i, 1)
	}
	l = append(l, 0, 0, 0, 0, slots)
	for i := range ofSlots {
		l = append(l, i, 1)
	}
	return written(l...)
}

func TestCountsOfBands(t *testing.T) {
	wantGet(t, "one band", api.InPolicy, counted(1, 1, 0, 0), api.OK)
	wantGet(t, "eight bands", api.InPolicy, counted(8, 8, 0, 0), api.OK)
	for _, n := range []int64{9, 10, 100, 1 << 20, 1 << 32, 1<<32 + 1, math.MaxInt64, -1, -8, math.MinInt64} {
		wantGet(t, "so many bands", api.InPolicy, counted(n, min(max(n, 0), 20), 0, 0), api.ErrForm)
		wantGet(t, "so many bands, and none behind", api.InPolicy, written(1, 2, 0, n), api.ErrForm)
		wantGet(t, "so many bands, and a cut number behind", api.InPolicy, append(written(1, 2, 0, n), 128), api.ErrForm)
	}
	for n := int64(1); n <= 8; n++ {
		for of := range n {
			wantGet(t, "more bands than are there", api.InPolicy, written(append([]int64{1, 2, 0, n}, make([]int64, 2*of)...)...), api.ErrEnd)
			wantGet(t, "half of a band", api.InPolicy, written(append([]int64{1, 2, 0, n}, make([]int64, 2*of+1)...)...), api.ErrEnd)
			wantHeld(t, api.InPolicy, counted(n, of, 0, 0))
			wantHeld(t, api.InPolicy, counted(of, n, 0, 0))
		}
	}
}

func TestCountsOfSlots(t *testing.T) {
	head := []int64{1, 4, 0, 0, 0, 0, 0, 100}
	rows := func(count int64, n int64) []byte {
		l := append(slices.Clone(head), count)
		for i := range n {
			l = append(l, i, 1)
		}
		return written(l...)
	}
	wantGet(t, "one slot", api.InPolicy, rows(1, 1), api.OK)
	wantGet(t, "eight slots", api.InPolicy, rows(8, 8), api.OK)
	for _, n := range []int64{9, 10, 100, 1 << 20, 1 << 32, 1<<32 + 1, math.MaxInt64, -1, -8, math.MinInt64} {
		wantGet(t, "so many slots", api.InPolicy, rows(n, min(max(n, 0), 20)), api.ErrForm)
		wantGet(t, "so many slots, and none behind", api.InPolicy, rows(n, 0), api.ErrForm)
		wantGet(t, "so many slots, and a cut number behind", api.InPolicy, append(rows(n, 0), 128), api.ErrForm)
	}
	for n := int64(1); n <= 8; n++ {
		for of := range n {
			wantGet(t, "more slots than are there", api.InPolicy, rows(n, of), api.ErrEnd)
			wantGet(t, "half of a slot", api.InPolicy, append(rows(n, of), 0), api.ErrEnd)
			wantGet(t, "fewer slots than are there", api.InPolicy, rows(of, n), api.ErrForm)
		}
	}
}

func TestSizesOfTextsGot(t *testing.T) {
	behind := make([]byte, 3000)
	for _, n := range []int64{0, 1, 64, 1699, 1700} {
		wantGet(t, "a text", api.OutSnapshot, append(written(n), behind[:n]...), api.OK)
		wantGet(t, "a text with more behind", api.OutSnapshot, append(written(n), behind[:n+1]...), api.ErrForm)
		if n > 0 {
			wantGet(t, "a text that is cut", api.OutSnapshot, append(written(n), behind[:n-1]...), api.ErrEnd)
		}
	}
	for _, n := range []int64{1701, 1702, 1800, 3000, 1 << 32, 1<<32 + 1, math.MaxInt64, -1, math.MinInt64} {
		wantGet(t, "a text that is too long", api.OutSnapshot, append(written(n), behind[:min(max(n, 0), 3000)]...), api.ErrForm)
		wantGet(t, "a text that is too long, and none behind", api.OutSnapshot, written(n), api.ErrForm)
	}
}

// What is wrong with the bytes is told ahead of what is wrong with the event; of the bytes what is wrong first.
func TestOrderOfErrors(t *testing.T) {
	for _, c := range []struct {
		name string
		kind int
		b    []byte
		want api.Errno
	}{
		{"an Id that may not be", api.OutPromote, written(4), api.ErrForm},
		{"a decision's T that may not be, and no N", api.OutDecision, written(-1), api.ErrEnd},
		{"an Id that may not be, and no policy", api.InPolicy, written(4), api.ErrEnd},
		{"a policy's kind that is none, and no more", api.InPolicy, written(1, 9, 0), api.ErrEnd},
		{"bands that do not rise, and no more", api.InPolicy, written(1, 2, 0, 2, 5, 0, 5, 0), api.ErrEnd},
		{"bands that do not rise", api.InPolicy, written(1, 2, 0, 2, 5, 0, 5, 0, 0, 0, 0, 0, 0), api.ErrForm},
		{"too many bands, and no more", api.InPolicy, written(4, 9, 0, 9), api.ErrForm},
		{"a number that is too long, and no more", api.InConf, []byte{0x80, 0}, api.ErrForm},
		{"a number that has no end", api.InConf, bytes.Repeat([]byte{128}, 9), api.ErrEnd},
		{"a number of eleven bytes", api.InConf, bytes.Repeat([]byte{128}, 11), api.ErrForm},
		{"a configuration that may not be, and no Breach", api.InConf, make([]byte, 11), api.ErrEnd},
		{"a configuration that may not be", api.InConf, make([]byte, 12), api.ErrForm},
		{"a configuration that may not be, and more", api.InConf, make([]byte, 13), api.ErrForm},
		{"no kind, and nothing", 0, nil, api.ErrForm},
		{"no kind, and a number that is cut", 9, []byte{128}, api.ErrForm},
		{"nothing of a sample", api.InSample, nil, api.ErrEnd},
		{"nothing of a snapshot", api.OutSnapshot, nil, api.ErrEnd},
		{"nothing of a policy", api.InPolicy, []byte{}, api.ErrEnd},
	} {
		wantGet(t, c.name, c.kind, c.b, c.want)
		wantHeld(t, c.kind, c.b)
	}
}

// Of bytes beyond any event, also very many.
func TestManyBytes(t *testing.T) {
	r := rand.New(rand.NewPCG(9, 1))
	for _, b := range [][]byte{make([]byte, 1<<22), bytes.Repeat([]byte{255}, 1<<22), randomBytes(r, 1<<22)} {
		for _, kind := range kinds() {
			if e, f := event.Get(kind, b); f != api.ErrForm || !alike(e, api.Event{}) {
				t.Errorf("kind %d of %d bytes: %v, error %d", kind, len(b), e, f)
			}
		}
	}
}
