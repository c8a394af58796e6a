package frame_test

import (
	"bytes"
	"math/rand/v2"
	"slices"
	"sync"
	"testing"

	"governor/api"
	"governor/frame"
)

// P3.2: whatever stands behind.
func TestThereAndBack(t *testing.T) {
	r := rand.New(rand.NewPCG(3, 10))
	for _, f := range someFrames() {
		b := frame.Put(f)
		for _, behind := range [][]byte{nil, {0}, {255}, b, make([]byte, 2000), randomBytes(r, 1+r.IntN(50)), frame.Put(oneOf(r))} {
			wantGot(t, slices.Concat(b, behind), f, len(b))
		}
	}
}

func TestThereAndBackAtRandom(t *testing.T) {
	r := rand.New(rand.NewPCG(3, 11))
	for range 2000 {
		f := oneOf(r)
		b := frame.Put(f)
		wantGot(t, append(bytes.Clone(b), randomBytes(r, r.IntN(20))...), f, len(b))
	}
}

// Bodies of each size up to the greatest one.
func TestThereAndBackOfEachSize(t *testing.T) {
	body := randomBytes(rand.New(rand.NewPCG(3, 12)), api.MaxBody)
	for n := range api.MaxBody + 1 {
		f := api.Frame{Type: 3, Seq: int64(n), Body: body[:n]}
		wantGot(t, append(frame.Put(f), 1), f, n+11)
	}
}

// Frames whose bodies are frames are told as they are.
func TestFramesInFrames(t *testing.T) {
	f := api.Frame{Type: 1}
	for i := range 50 {
		f = api.Frame{Type: 1, Seq: int64(i), Body: frame.Put(f)}
		wantGot(t, frame.Put(f), f, len(f.Body)+11)
	}
	wantScan(t, frame.Put(f), 49, []api.Frame{f})
}

// P3.3, cut

func TestCutRowsScanToTheirBeginning(t *testing.T) {
	r := rand.New(rand.NewPCG(3, 13))
	for range 30 {
		first := r.Int64N(1000)
		frames := rising(r, first, r.IntN(8))
		b := row(frames)
		for i := range len(b) + 1 {
			whole := 0
			for whole < len(frames) && len(row(frames[:whole+1])) <= i {
				whole++
			}
			wantScan(t, b[:i], first, frames[:whole])
		}
	}
}

func TestCutFramesAreNotGot(t *testing.T) {
	for _, f := range someFrames() {
		b := frame.Put(f)
		for i := range b {
			wantRefused(t, b[:i], api.ErrEnd)
			wantScan(t, b[:i], f.Seq, nil)
		}
	}
}

// P3.3, turned

func wantNotGot(t *testing.T, b []byte, place int) {
	t.Helper()
	if f, n, e := frame.Get(b); e != api.ErrSum || n != 0 || f.Type != 0 || f.Seq != 0 || len(f.Body) != 0 {
		t.Errorf("Get of %d bytes turned at %d: %v of %d bytes, error %d", len(b), place, tell(f), n, e)
	}
}

// Each byte behind the size, to each other byte.
func TestEachByteTurned(t *testing.T) {
	for _, f := range []api.Frame{{Type: 1}, {Type: 15, Seq: api.MaxSeq, Body: []byte("some body")}, {Type: 3, Seq: 300, Body: make([]byte, 40)}} {
		b := frame.Put(f)
		for i := 2; i < len(b); i++ {
			for turn := 1; turn < 256; turn++ {
				c := bytes.Clone(b)
				c[i] ^= byte(turn)
				wantNotGot(t, c, i)
				wantNotGot(t, append(c, b...), i)
			}
		}
	}
}

func TestOneByteTurnedOfManyFrames(t *testing.T) {
	r := rand.New(rand.NewPCG(3, 14))
	for _, f := range someFrames() {
		b := frame.Put(f)
		for i := 2; i < len(b); i++ {
			b[i] ^= byte(1 + r.IntN(255))
			wantNotGot(t, b, i)
			b = frame.Put(f)
		}
	}
}

// Rows with one byte turned behind a size scan to the frames ahead of that one.
func TestTurnedRowsScanToTheFramesAhead(t *testing.T) {
	r := rand.New(rand.NewPCG(3, 15))
	frames := rising(r, 3, 5)
	for place := range frames {
		from := len(row(frames[:place]))
		for i := from + 2; i < len(row(frames[:place+1])); i++ {
			b := row(frames)
			b[i] ^= byte(1 + r.IntN(255))
			wantScan(t, b, 3, frames[:place])
		}
	}
}

// The rules: P1, at any bytes of a few, and any size.
func TestAnyTwoBytesEnd(t *testing.T) {
	b := make([]byte, 20)
	for size := range 1 << 16 {
		b[0], b[1] = byte(size>>8), byte(size)
		want := api.ErrForm
		switch {
		case size <= 9:
			want = api.ErrSum
		case size <= api.MaxBody:
			want = api.ErrEnd
		}
		if _, _, e := frame.Get(b); e != want {
			t.Errorf("Get of a size of %d: error %d, not %d", size, e, want)
		}
	}
}

// within is b's bytes with bytes on both sides of them, the spare room as the whole has it.
func within(b []byte) (whole []byte, part []byte) {
	whole = slices.Concat([]byte("ahead"), b, bytes.Repeat([]byte("spare"), 400))
	return whole, whole[5 : 5+len(b)]
}

// The rules: P3, what is handed in stays as it was, its spare room too.
func TestWhatIsHandedInStays(t *testing.T) {
	for _, f := range append(someFrames(), wrongFrames()...) {
		whole, part := within(f.Body)
		before := bytes.Clone(whole)
		f.Body = part
		frame.Right(f)
		frame.Put(f)
		if !bytes.Equal(whole, before) {
			t.Error("Put or Right changed what was handed in:", tell(f))
		}
	}
	r := rand.New(rand.NewPCG(3, 16))
	for _, b := range [][]byte{nil, {0}, row(rising(r, 1, 4)), row(rising(r, 2, 4)), make([]byte, 30), sized(1801, 20), told(0, 0, nil), told(1, 1, nil)[:9]} {
		whole, part := within(b)
		before := bytes.Clone(whole)
		frame.Get(part)
		frame.Scan(part, 1)
		if !bytes.Equal(whole, before) {
			t.Errorf("Get or Scan of %x changed what was handed in", b)
		}
	}
}

// What stands in the spare room behind is not read.
func TestSpareRoomIsNotRead(t *testing.T) {
	b := told(1, 1, []byte("body"))
	for i := range b {
		wantRefused(t, b[:i], api.ErrEnd)
		wantScan(t, b[:i], 1, nil)
	}
}

// spoil writes over a list and over its spare room.
func spoil(b []byte) {
	b = b[:cap(b)]
	for i := range b {
		b[i] ^= 255
	}
}

// The rules: P3, what is handed in is not kept, what comes out is new.

func TestPutIsNew(t *testing.T) {
	for _, f := range someFrames() {
		want := told(byte(f.Type), uint32(f.Seq), f.Body)
		f.Body = append(make([]byte, 0, len(f.Body)+100), f.Body...)
		body := bytes.Clone(f.Body)
		a, b := frame.Put(f), frame.Put(f)
		spoil(a)
		if !bytes.Equal(b, want) || !bytes.Equal(f.Body, body) {
			t.Error("Put shares what it answered:", tell(f))
		}
		spoil(f.Body)
		if !bytes.Equal(b, want) {
			t.Error("Put shares what was handed in:", tell(f))
		}
	}
}

func TestGetIsNew(t *testing.T) {
	for _, f := range someFrames() {
		whole, part := within(frame.Put(f))
		before := bytes.Clone(whole)
		a, _, _ := frame.Get(part)
		b, _, _ := frame.Get(part)
		spoil(a.Body)
		if !bytes.Equal(whole, before) || !alike(b, f) {
			t.Error("Get shares what it answered:", tell(f))
		}
		spoil(whole)
		if !alike(b, f) {
			t.Error("Get shares what was handed in:", tell(f))
		}
	}
}

func TestScanIsNew(t *testing.T) {
	frames := rising(rand.New(rand.NewPCG(3, 17)), 1, 12)
	whole, part := within(row(frames))
	before := bytes.Clone(whole)
	a, _ := frame.Scan(part, 1)
	b, _ := frame.Scan(part, 1)
	for i := range a {
		spoil(a[i].Body)
		if !slices.EqualFunc(a[i+1:], frames[i+1:], alike) {
			t.Error("two bodies of one Scan share at", i)
		}
	}
	a = a[:cap(a)]
	for i := range a {
		a[i] = api.Frame{Type: 99}
	}
	if !bytes.Equal(whole, before) || !slices.EqualFunc(b, frames, alike) {
		t.Error("Scan shares what it answered")
	}
	spoil(whole)
	if !slices.EqualFunc(b, frames, alike) {
		t.Error("Scan shares what was handed in")
	}
}

// What is answered hangs on the arguments alone: many at a time, in any order.
func TestManyAtATime(t *testing.T) {
	frames := someFrames()
	var group sync.WaitGroup
	for worker := range 8 {
		group.Go(func() {
			for i := range frames {
				f := frames[(i+worker*7)%len(frames)]
				b := frame.Put(f)
				wantGot(t, b, f, len(b))
				wantScan(t, b, f.Seq, []api.Frame{f})
			}
		})
	}
	group.Wait()
}
