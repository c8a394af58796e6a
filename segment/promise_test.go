package segment_test

import (
	"bytes"
	"math"
	"math/rand/v2"
	"slices"
	"sync"
	"testing"

	"governor/api"
	"governor/frame"
	"governor/segment"
)

// made is a segment's bytes as the program makes them.
func made(first int64, frames []api.Frame) []byte {
	b := segment.Head(first)
	for _, f := range frames {
		b = append(b, frame.Put(f)...)
	}
	return b
}

// nones is what is no frame of the number next.
func nones(r *rand.Rand, next int64) [][]byte {
	f := frame.Put(api.Frame{Type: 5, Seq: min(next, api.MaxSeq), Body: []byte("next")})
	torn, turned := f[:1+r.IntN(len(f)-1)], bytes.Clone(f)
	turned[2+r.IntN(len(f)-2)] ^= byte(1 + r.IntN(255))
	other := []int64{next + 1, next + 2, next - 1, 0, api.MaxSeq}
	other = slices.DeleteFunc(other, func(n int64) bool { return n == next || n < 0 || n > api.MaxSeq })
	return [][]byte{nil, {0}, {255}, {255, 255}, torn, turned, append(turned, f...), made(next, rising(r, next, 2)), rowOf(numbered(other...)), make([]byte, 2000)}
}

// P4.2

func TestThereAndBack(t *testing.T) {
	r := rand.New(rand.NewPCG(4, 10))
	for range 300 {
		first := someFirsts()[r.IntN(19)]
		frames := rising(r, first, min(r.IntN(12), int(api.MaxSeq-first)+1))
		b := made(first, frames)
		for _, behind := range nones(r, first+int64(len(frames))) {
			wantRead(t, slices.Concat(b, behind), first, frames, len(b))
		}
	}
}

// Cut anywhere, a segment is read as the frames that are whole.
func TestCutSegmentsAreReadToTheirBeginning(t *testing.T) {
	r := rand.New(rand.NewPCG(4, 11))
	for range 30 {
		first := r.Int64N(1000)
		frames := rising(r, first, r.IntN(8))
		b := made(first, frames)
		for i := 12; i <= len(b); i++ {
			whole := 0
			for whole < len(frames) && len(made(first, frames[:whole+1])) <= i {
				whole++
			}
			wantRead(t, b[:i], first, frames[:whole], len(made(first, frames[:whole])))
		}
	}
}

// A byte turned behind the head leaves the frames ahead of it.
func TestTurnedSegmentsAreReadToTheFramesAhead(t *testing.T) {
	r := rand.New(rand.NewPCG(4, 12))
	frames := rising(r, 3, 5)
	for place, at := range begins(frames) {
		for i := at + 2; i < at+11+len(frames[place].Body); i++ {
			b := made(3, frames)
			b[i] ^= byte(1 + r.IntN(255))
			wantRead(t, b, 3, frames[:place], at)
		}
	}
}

// A segment whose frames' bodies are segments is read as it is.
func TestSegmentsInSegments(t *testing.T) {
	frames := numbered(7)
	for range 20 {
		b := made(7, frames)
		wantRead(t, b, 7, frames, len(b))
		frames = []api.Frame{{Type: 2, Seq: 7, Body: b}, {Type: 3, Seq: 8}}
	}
}

// P4.3

// wantAllFound asks for each frame of a segment, and for no other one.
func wantAllFound(t *testing.T, b []byte, l []api.Spot, first int64, frames []api.Frame) {
	t.Helper()
	for _, f := range frames {
		wantFound(t, b, l, f)
	}
	end := first + int64(len(frames))
	for _, seq := range []int64{first - 2, first - 1, end, end + 1, end + 100, -1, math.MinInt64, math.MaxInt64, first + 1<<32} {
		wantNotFound(t, b, l, seq)
	}
}

func TestEachFrameIsFoundByTheIndex(t *testing.T) {
	r := rand.New(rand.NewPCG(4, 13))
	for range 40 {
		first := someFirsts()[r.IntN(17)]
		n := r.IntN(15)
		frames := rising(r, first, n)
		b := made(first, frames)
		for every := 1; every < n+3; every++ {
			wantAllFound(t, b, segment.Index(b, every), first, frames)
		}
		wantAllFound(t, b, segment.Index(b, math.MaxInt), first, frames)
		wantAllFound(t, b, segment.Index(b, 0), first, nil)
	}
}

// A torn frame behind the segment's is not found.
func TestATornFrameIsNotFound(t *testing.T) {
	r := rand.New(rand.NewPCG(4, 14))
	frames := rising(r, 20, 6)
	b := made(20, frames)
	for i := begins(frames)[5]; i < len(b); i++ {
		for every := 1; every < 8; every++ {
			wantAllFound(t, b[:i], segment.Index(b[:i], every), 20, frames[:5])
		}
	}
}

// Each spot of an index is where just its frame begins.
func TestSpotsAreWhereFramesBegin(t *testing.T) {
	r := rand.New(rand.NewPCG(4, 15))
	for range 100 {
		first := r.Int64N(1000)
		frames := rising(r, first, r.IntN(20))
		b := made(first, frames)
		for _, s := range segment.Index(b, 1+r.IntN(5)) {
			if f, _, e := frame.Get(b[s.At:]); e != api.OK || !alike(f, frames[s.Seq-first]) {
				t.Errorf("at %d: %v, error %d, not the frame %d", s.At, f, e, s.Seq)
			}
		}
	}
}

// The greatest segment there may be, of the smallest frames.
func TestAGreatSegment(t *testing.T) {
	var frames []api.Frame
	for i := range (api.MaxSegment - api.HeadSize) / 11 {
		frames = append(frames, api.Frame{Type: 1 + i%15, Seq: int64(i)})
	}
	b := made(0, frames)
	wantRead(t, b, 0, frames, len(b))
	l := segment.Index(b, 100)
	if len(l) != (len(frames)+99)/100 {
		t.Errorf("%d spots of %d frames", len(l), len(frames))
	}
	for i := 0; i < len(frames); i += 37 {
		wantFound(t, b, l, frames[i])
	}
	wantNotFound(t, b, l, int64(len(frames)))
}

// find is Find by its words.
func find(b []byte, l []api.Spot, seq int64) (api.Frame, bool) {
	last := -1
	for i, s := range l {
		if s.Seq <= seq {
			last = i
		}
	}
	if last < 0 || l[last].At < 0 || l[last].At > len(b) {
		return api.Frame{}, false
	}
	b = b[l[last].At:]
	for {
		f, n, e := frame.Get(b)
		if e != api.OK || f.Seq > seq {
			return api.Frame{}, false
		}
		if f.Seq == seq {
			return f, true
		}
		b = b[n:]
	}
}

// Any bytes, any index, any number.
func TestFindIsAsItsWords(t *testing.T) {
	r := rand.New(rand.NewPCG(4, 16))
	for range 20000 {
		var seqs []int64
		for range r.IntN(7) {
			seqs = append(seqs, int64(len(seqs)*r.IntN(2)+r.IntN(4)))
		}
		frames := numbered(seqs...)
		b := append(segmentOf(0, frames), randomBytes(r, r.IntN(3))...)
		if r.IntN(4) == 0 {
			b[r.IntN(len(b))] ^= byte(r.IntN(256))
		}
		places := append(begins(frames), -1, 0, len(b), len(b)+1, r.IntN(len(b)))
		var l []api.Spot
		for range r.IntN(5) {
			l = append(l, api.Spot{Seq: int64(r.IntN(12) - 2), At: places[r.IntN(len(places))]})
		}
		seq := int64(r.IntN(13) - 2)
		f, is := segment.Find(b, l, seq)
		if want, there := find(b, l, seq); is != there || !alike(f, want) {
			t.Errorf("Find of %d in %v by %v: %v, %t, not %v, %t", seq, seqs, l, f, is, want, there)
		}
	}
}

// The rules: P1, any bytes end.
func TestAnyBytesEnd(t *testing.T) {
	r := rand.New(rand.NewPCG(4, 17))
	for range 20000 {
		b := randomBytes(r, r.IntN(60))
		if r.IntN(2) == 0 {
			b = append(segment.Head(r.Int64N(3)), b...)
		}
		first, l, n, e := segment.Read(b)
		if e == api.OK && !bytes.Equal(made(first, l), b[:n]) {
			t.Errorf("Read of %x: first %d, %d frames, %d bytes", b, first, len(l), n)
		}
		segment.Index(b, r.IntN(5)-1)
		segment.Find(b, []api.Spot{{Seq: int64(r.IntN(3)), At: r.IntN(70) - 5}}, int64(r.IntN(4)))
		segment.First(string(b))
	}
}

// within is b's bytes with bytes on both sides of them, the spare room as the whole has it.
func within(b []byte) (whole []byte, part []byte) {
	whole = slices.Concat([]byte("ahead"), b, bytes.Repeat([]byte("spare"), 20))
	return whole, whole[5 : 5+len(b)]
}

// someBytes is segments, and bytes that are none.
func someBytes() [][]byte {
	r := rand.New(rand.NewPCG(4, 18))
	b := made(1, rising(r, 1, 6))
	return [][]byte{nil, {1}, b, b[:11], b[:12], b[:len(b)-1], append(bytes.Clone(b), 1, 2, 3), headOf("GOV2", 1), headOf("GOV1", api.MaxSeq+1), append(headOf("GOV1", 1)[:11], 0), made(0, nil), made(2, rising(r, 3, 3))}
}

// The rules: P3, what is handed in stays as it was, its spare room too.
func TestWhatIsHandedInStays(t *testing.T) {
	for i, b := range someBytes() {
		whole, part := within(b)
		before := bytes.Clone(whole)
		l := append(make([]api.Spot, 0, 10), api.Spot{Seq: 5, At: 12}, api.Spot{Seq: 0, At: 12}, api.Spot{Seq: 3, At: -1})
		spare := slices.Clone(l[:cap(l)])
		segment.Read(part)
		segment.Index(part, 2)
		for seq := int64(-1); seq < 8; seq++ {
			segment.Find(part, l, seq)
		}
		if !bytes.Equal(whole, before) || !slices.Equal(l[:cap(l)], spare) {
			t.Errorf("bytes %d: what was handed in is changed", i)
		}
	}
}

// spoil writes over a list and over its spare room.
func spoil(b []byte) {
	b = b[:cap(b)]
	for i := range b {
		b[i] ^= 255
	}
}

// The rules: P3, what is handed in is not kept, what comes out is new.

func TestHeadIsNew(t *testing.T) {
	for _, first := range someFirsts() {
		a, b := segment.Head(first), segment.Head(first)
		spoil(a)
		if want := headOf("GOV1", uint32(first)); !bytes.Equal(b, want) || !bytes.Equal(segment.Head(first), want) {
			t.Errorf("Head of %d shares what it answered", first)
		}
	}
}

func TestReadIsNew(t *testing.T) {
	frames := rising(rand.New(rand.NewPCG(4, 19)), 1, 12)
	whole, part := within(made(1, frames))
	before := bytes.Clone(whole)
	_, a, _, _ := segment.Read(part)
	_, b, _, _ := segment.Read(part)
	for i := range a {
		spoil(a[i].Body)
		if !slices.EqualFunc(a[i+1:], frames[i+1:], alike) {
			t.Error("two bodies of one Read share at", i)
		}
	}
	a = a[:cap(a)]
	for i := range a {
		a[i] = api.Frame{Type: 99}
	}
	if !bytes.Equal(whole, before) || !slices.EqualFunc(b, frames, alike) {
		t.Error("Read shares what it answered")
	}
	spoil(whole)
	if !slices.EqualFunc(b, frames, alike) {
		t.Error("Read shares what was handed in")
	}
}

func TestIndexIsNew(t *testing.T) {
	whole, part := within(made(1, rising(rand.New(rand.NewPCG(4, 20)), 1, 12)))
	before := bytes.Clone(whole)
	a, b := segment.Index(part, 2), segment.Index(part, 2)
	want := slices.Clone(b)
	a = a[:cap(a)]
	for i := range a {
		a[i] = api.Spot{Seq: -1, At: -1}
	}
	if !bytes.Equal(whole, before) || !slices.Equal(b, want) || !slices.Equal(segment.Index(part, 2), want) {
		t.Error("Index shares what it answered")
	}
}

func TestFindIsNew(t *testing.T) {
	frames := numbered(1, 2, 3)
	whole, part := within(made(1, frames))
	before := bytes.Clone(whole)
	l := segment.Index(part, 1)
	a, _ := segment.Find(part, l, 2)
	b, _ := segment.Find(part, l, 2)
	spoil(a.Body)
	if !bytes.Equal(whole, before) || !alike(b, frames[1]) {
		t.Error("Find shares what it answered")
	}
	l[1] = api.Spot{}
	spoil(whole)
	if !alike(b, frames[1]) {
		t.Error("Find shares what was handed in")
	}
}

// What is answered hangs on the arguments alone: many at a time, in any order.
func TestManyAtATime(t *testing.T) {
	frames := rising(rand.New(rand.NewPCG(4, 21)), 5, 20)
	b := made(5, frames)
	var group sync.WaitGroup
	for worker := range 8 {
		group.Go(func() {
			for i := range 20 {
				every := 1 + (i+worker*7)%20
				wantRead(t, b, 5, frames, len(b))
				wantAllFound(t, b, segment.Index(b, every), 5, frames)
				if name := segment.Name(int64(i)); name == "" {
					t.Error("no name of", i)
				}
			}
		})
	}
	group.Wait()
}
