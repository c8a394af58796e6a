package seglog_test

import (
	"math"
	"slices"
	"testing"

	"governor/api"
	"governor/disk"
	"governor/seglog"
)

// P6.1, F1: which sizes there are, told ahead of all else; nothing is done

func TestWrongSizes(t *testing.T) {
	for _, size := range []int{63, 65537, 0, -1, -64, 1, 12, math.MinInt, math.MaxInt, 1 << 17, 1<<32 + 64, -1<<32 + 64} {
		for fuse := range 3 {
			files := []file{lasting("fix.tmp", "x"), lasting("manifest", "none"), lasting("s0000000007", "")}
			d := filled(t, 100, files...)
			d.Fuse(fuse)
			l, e := seglog.Open(d, size)
			if l != nil || e != api.ErrArg {
				t.Errorf("Open of size %d: error %d, log %v", size, e, l)
			}
			wantFiles(t, d, files...)
			wantLeft(t, d, fuse)
		}
	}
}

func TestSizes(t *testing.T) {
	for _, size := range []int{64, 65, 100, 65535, 65536} {
		d := disk.New(100)
		wantLog(t, openOn(t, d, size), []int64{0}, nil, 0)
		wantFiles(t, d, listed(0), whole(0))
	}
}

// P6.1, F2, F4: frames appended, in one segment and in many

func TestOneSegment(t *testing.T) {
	d := disk.New(4000)
	l := openOn(t, d, 2000)
	var bodies []string
	for i := range 50 {
		bodies = append(bodies, text(i%7))
		put(t, l, text(i%7))
		wantLog(t, l, []int64{0}, row(0, bodies...), int64(i)+1)
	}
	wantFiles(t, d, listed(0), file{name(0), seg(0, bodies...), 12})
	wantErr(t, "Sync", l.Sync(), api.OK)
	wantFiles(t, d, listed(0), whole(0, bodies...))
}

// Each segment has as many frames as it has room for, and lasts as soon as another one is laid.
func TestManySegments(t *testing.T) {
	d := disk.New(4000)
	l := openOn(t, d, 64)
	put(t, l, text(10), text(10))
	wantLog(t, l, []int64{0}, row(0, text(10), text(10)), 2)
	put(t, l, text(10))
	wantLog(t, l, []int64{0, 2}, row(0, text(10), text(10), text(10)), 3)
	wantFiles(t, d, listed(0, 2), whole(0, text(10), text(10)), file{name(2), seg(2, text(10)), 12})
	put(t, l, text(11), "", text(40), "a")
	all := row(0, text(10), text(10), text(10), text(11), "", text(40), "a")
	wantLog(t, l, []int64{0, 2, 4, 5, 6}, all, 7)
	wantFiles(t, d, listed(0, 2, 4, 5, 6), whole(0, text(10), text(10)), whole(2, text(10), text(11)), whole(4, ""), whole(5, text(40)), file{name(6), seg(6, "a"), 12})
	wantErr(t, "Sync", l.Sync(), api.OK)
	wantLog(t, openOn(t, d, 64), []int64{0, 2, 4, 5, 6}, all, 7)
}

// Every type and body that a right frame has.
func TestKindsAndBodies(t *testing.T) {
	d := disk.New(api.MaxDisk)
	l := openOn(t, d, api.MaxSegment)
	var want []api.Frame
	for kind := 1; kind <= api.MaxType; kind++ {
		for _, body := range []string{"", "a", "\x00\xff\n", text(1799), text(1800)} {
			n, e := l.Append(kind, []byte(body))
			if n != int64(len(want)) || e != api.OK {
				t.Errorf("Append of type %d, %d bytes: %d, error %d", kind, len(body), n, e)
			}
			want = append(want, api.Frame{Type: kind, Seq: n, Body: []byte(body)})
		}
	}
	if got := l.Frames(); !alike(got, want) {
		t.Error("other frames")
	}
	if got := openOn(t, d, api.MaxSegment).Frames(); !alike(got, want) {
		t.Error("other frames behind Open")
	}
	if n, e := l.Append(1, nil); n != int64(len(want)) || e != api.OK {
		t.Errorf("Append of nil: %d, error %d", n, e)
	}
}

// P6.1, F2: a frame that fills a segment just to its size, and one that is one byte more

func TestJustToTheSize(t *testing.T) {
	for _, size := range []int{64, 65, 100, 1000, 1838} {
		for more, segments := range [][]int64{{0}, {0, 1}} {
			d := disk.New(8000)
			l := openOn(t, d, size)
			// The head has 12 bytes, a frame 11 beside its body: the second one is what is left, and more.
			rest := text(size - 12 - 11 - 5 - 11 + more)
			put(t, l, "first", rest)
			wantLog(t, l, segments, row(0, "first", rest), 2)
			b, _ := d.Read(name(0))
			if more == 0 && len(b) != size {
				t.Errorf("%d bytes in a segment of size %d", len(b), size)
			}
			put(t, l, "")
			if more == 0 {
				wantLog(t, l, []int64{0, 2}, row(0, "first", rest, ""), 3)
			}
		}
	}
}

func TestJustToTheGreatestSize(t *testing.T) {
	for more, segments := range [][]int64{{0}, {0, 37}} {
		d := disk.New(1 << 18)
		l := openOn(t, d, api.MaxSegment)
		for range 36 {
			put(t, l, text(1789))
		}
		put(t, l, text(api.MaxSegment-12-36*1800-11))
		b, _ := d.Read(name(0))
		if len(b) != api.MaxSegment {
			t.Errorf("%d bytes", len(b))
		}
		if more == 1 {
			put(t, l, "")
		}
		if got := l.Segments(); !slices.Equal(got, segments) {
			t.Errorf("segments are %v, not %v", got, segments)
		}
	}
}

// A segment without frames takes a frame of any size: no other segment would have more room.
func TestGreaterThanTheSize(t *testing.T) {
	for _, size := range []int{41, 42, 43, 53, 500, 1800} {
		d := disk.New(20000)
		l := openOn(t, d, 64)
		put(t, l, text(size))
		wantLog(t, l, []int64{0}, row(0, text(size)), 1)
		put(t, l, "")
		wantLog(t, l, []int64{0, 1}, row(0, text(size), ""), 2)
		wantFiles(t, d, listed(0, 1), whole(0, text(size)), file{name(1), seg(1, ""), 12})
		put(t, l, text(size), text(size))
		wantLog(t, l, []int64{0, 1, 2, 3}, row(0, text(size), "", text(size), text(size)), 4)
		wantErr(t, "Sync", l.Sync(), api.OK)
		wantLog(t, openOn(t, d, 64), []int64{0, 1, 2, 3}, row(0, text(size), "", text(size), text(size)), 4)
	}
}

// The size is that of whoever opened the log: what is there already may be greater.
func TestAnotherSize(t *testing.T) {
	d := disk.New(4000)
	put(t, openOn(t, d, 1000), text(100), text(100))
	l := openOn(t, d, 64)
	wantLog(t, l, []int64{0}, row(0, text(100), text(100)), 2)
	put(t, l, "a")
	wantLog(t, l, []int64{0, 2}, row(0, text(100), text(100), "a"), 3)
	l = openOn(t, d, 1000)
	put(t, l, text(100))
	wantLog(t, l, []int64{0, 2}, row(0, text(100), text(100), "a", text(100)), 4)
}

// P6.1, F2: MaxSegments segments, and one more needed

// fullLog is a log of MaxSegments segments, of one frame each, and its disk.
func fullLog(t *testing.T) (*disk.Disk, *seglog.Log, []api.Frame) {
	t.Helper()
	d := disk.New(10000)
	l := openOn(t, d, 64)
	var bodies []string
	for range api.MaxSegments {
		bodies = append(bodies, text(40))
	}
	put(t, l, bodies...)
	wantErr(t, "Sync", l.Sync(), api.OK)
	frames := row(0, bodies...)
	var segments []int64
	for i := range int64(api.MaxSegments) {
		segments = append(segments, i)
	}
	wantLog(t, l, segments, frames, api.MaxSegments)
	return d, l, frames
}

// It is told ahead of what the disk says, and nothing is done.
func TestSegmentsAreFull(t *testing.T) {
	for fuse := range 4 {
		d, l, frames := fullLog(t)
		files := look(d)
		d.Fuse(fuse)
		d.Fail(1)
		for _, body := range []string{text(2), text(40), text(1800)} {
			wantNotAppended(t, l, 1, body, api.ErrFull)
		}
		// A frame that is not right is told ahead of that.
		wantNotAppended(t, l, 0, text(40), api.ErrArg)
		wantNotAppended(t, l, 1, text(1801), api.ErrArg)
		wantFiles(t, d, files...)
		wantLeft(t, d, fuse)
		d.Crash(nil)
		wantLog(t, openOn(t, d, 64), l.Segments(), frames, api.MaxSegments)
	}
}

// What fits into the last one is appended all the same, and with one segment fewer another one is laid.
func TestSegmentsAreFullButForSome(t *testing.T) {
	d, l, frames := fullLog(t)
	wantErr(t, "Retain", l.Retain(1), api.OK)
	put(t, l, "a")
	frames = append(frames[1:], row(40, "a")...)
	wantNotAppended(t, l, 1, text(30), api.ErrFull)
	put(t, l, text(29))
	frames = append(frames, row(41, text(29))...)
	wantNotAppended(t, l, 1, "", api.ErrFull)
	wantErr(t, "Retain", l.Retain(1), api.OK)
	wantNotAppended(t, l, 1, "", api.ErrFull)
	wantErr(t, "Retain", l.Retain(3), api.OK)
	put(t, l, text(40), text(40))
	frames = append(frames[2:], row(42, text(40), text(40))...)
	wantNotAppended(t, l, 1, text(40), api.ErrFull)
	segments := l.Segments()
	if len(segments) != api.MaxSegments || segments[0] != 3 || segments[37] != 40 || segments[38] != 42 || segments[39] != 43 {
		t.Errorf("segments are %v", segments)
	}
	wantLog(t, openOn(t, d, 64), segments, frames, 44)
}

// P6.1, F2: numbers up to MaxSeq

func TestNumbersUpToTheGreatest(t *testing.T) {
	first := int64(api.MaxSeq - 2)
	d := filled(t, 4000, listed(first), whole(first, "a"))
	l := openOn(t, d, 64)
	wantLog(t, l, []int64{first}, row(first, "a"), first+1)
	put(t, l, text(40), "c")
	all := row(first, "a", text(40), "c")
	wantLog(t, l, []int64{first, first + 1, first + 2}, all, api.MaxSeq+1)
	// Behind the greatest number there is none, be another segment needed or not.
	files := look(d)
	for _, body := range []string{"", text(40)} {
		wantNotAppended(t, l, 1, body, api.ErrArg)
	}
	wantFiles(t, d, files...)
	l = openOn(t, d, 64)
	wantLog(t, l, []int64{first, first + 1, first + 2}, all, api.MaxSeq+1)
	wantNotAppended(t, l, 1, "", api.ErrArg)
	wantErr(t, "Retain", l.Retain(api.MaxSeq), api.OK)
	wantLog(t, l, []int64{api.MaxSeq}, all[2:], api.MaxSeq+1)
	wantErr(t, "Sync", l.Sync(), api.OK)
}

// P6.1, F2: a frame that is not right is told ahead of what the disk says, and nothing is done

func TestWrongFrames(t *testing.T) {
	for fuse := range 3 {
		d := disk.New(4000)
		l := openOn(t, d, 64)
		put(t, l, text(40))
		files := look(d)
		d.Fuse(fuse)
		d.Fail(1)
		for _, kind := range []int{0, -1, 16, 17, 256, 257, 1<<32 + 1, math.MinInt, math.MaxInt} {
			wantNotAppended(t, l, kind, "a", api.ErrArg)
			wantNotAppended(t, l, kind, text(40), api.ErrArg)
		}
		for _, size := range []int{1801, 1802, 65536 + 5, 1 << 20} {
			wantNotAppended(t, l, 1, text(size), api.ErrArg)
		}
		wantFiles(t, d, files...)
		wantLeft(t, d, fuse)
	}
}

// P6.1, F3: Retain of some, of none, of all but the last

// threeSegments is a log of segments of 0, 2 and 5, and its frames.
func threeSegments(t *testing.T) (*disk.Disk, *seglog.Log, []api.Frame) {
	t.Helper()
	d := disk.New(4000)
	l := openOn(t, d, 64)
	bodies := []string{text(15), text(15), "", "a", text(15), text(15), "b"}
	put(t, l, bodies...)
	wantErr(t, "Sync", l.Sync(), api.OK)
	wantLog(t, l, []int64{0, 2, 5}, row(0, bodies...), 7)
	return d, l, row(0, bodies...)
}

func TestRetain(t *testing.T) {
	for seq, gone := range map[int64]int{
		math.MinInt64: 0, -1 << 32: 0, -1: 0, 0: 0, 1: 0,
		2: 1, 3: 1, 4: 1,
		5: 2, 6: 2, 7: 2, 8: 2, 100: 2, api.MaxSeq: 2, api.MaxSeq + 1: 2, 1<<32 + 1: 2, math.MaxInt64: 2,
	} {
		d, l, frames := threeSegments(t)
		files, segments := look(d), l.Segments()
		wantErr(t, "Retain", l.Retain(seq), api.OK)
		frames = frames[segments[gone]:]
		wantLog(t, l, segments[gone:], frames, 7)
		wantFiles(t, d, append([]file{listed(segments[gone:]...)}, files[1+gone:]...)...)
		// Again nothing goes, and what was retained is there behind a crash.
		d.Fuse(0)
		wantErr(t, "Retain", l.Retain(seq), api.OK)
		d.Crash(nil)
		l = openOn(t, d, 64)
		wantLog(t, l, segments[gone:], frames, 7)
		put(t, l, "on")
		wantLog(t, l, segments[gone:], append(frames, row(7, "on")...), 8)
	}
}

// Where none goes nothing is done: no call, and no error, though the machine stands still.
func TestRetainOfNone(t *testing.T) {
	for _, seq := range []int64{math.MinInt64, -1, 0, 1} {
		for fuse := range 3 {
			d, l, frames := threeSegments(t)
			files := look(d)
			d.Fuse(fuse)
			d.Fail(1)
			wantErr(t, "Retain", l.Retain(seq), api.OK)
			wantLog(t, l, []int64{0, 2, 5}, frames, 7)
			wantFiles(t, d, files...)
			wantLeft(t, d, fuse)
		}
	}
}

// The last one stays, also where it has no frame.
func TestRetainOfOneSegment(t *testing.T) {
	d := disk.New(100)
	l := openOn(t, d, 64)
	d.Fuse(0)
	for _, seq := range []int64{-1, 0, 1, 100, math.MaxInt64} {
		wantErr(t, "Retain", l.Retain(seq), api.OK)
		wantLog(t, l, []int64{0}, nil, 0)
	}
	d.Fuse(-1)
	put(t, l, "a", "b")
	for _, seq := range []int64{0, 1, 2, math.MaxInt64} {
		wantErr(t, "Retain", l.Retain(seq), api.OK)
		wantLog(t, l, []int64{0}, row(0, "a", "b"), 2)
	}
}

// A log goes on behind Retain, and so it may for ever.
func TestRetainAndOn(t *testing.T) {
	d := disk.New(500)
	l := openOn(t, d, 64)
	for i := range int64(300) {
		put(t, l, text(20))
		wantErr(t, "Sync", l.Sync(), api.OK)
		wantErr(t, "Retain", l.Retain(i), api.OK)
		if segments := l.Segments(); !slices.Equal(segments, []int64{i}) || len(look(d)) != 2 {
			t.Fatalf("segments behind %d are %v, of %v", i, segments, look(d))
		}
	}
	if l.Next() != 300 {
		t.Errorf("next is %d", l.Next())
	}
}

// P6.1, F4: frames are as the disk has them

func TestFramesOfTheDisk(t *testing.T) {
	d, l, frames := threeSegments(t)
	wantErr(t, "write", d.Write(name(5), []byte("torn")), api.OK)
	wantLog(t, l, []int64{0, 2, 5}, frames, 7)
	// Of a segment without a head there are none, nor of one that is not there.
	wantErr(t, "delete", d.Delete(name(2)), api.OK)
	wantLog(t, l, []int64{0, 2, 5}, slices.Concat(frames[:2], frames[5:]), 7)
	wantErr(t, "write", d.Write(name(2), []byte("GOV1 but no head")), api.OK)
	wantLog(t, l, []int64{0, 2, 5}, slices.Concat(frames[:2], frames[5:]), 7)
	wantErr(t, "delete", d.Delete(name(0)), api.OK)
	wantErr(t, "write", d.Write(name(0), []byte(seg(0, "another one"))), api.OK)
	wantLog(t, l, []int64{0, 2, 5}, append(row(0, "another one"), frames[5:]...), 7)
	wantErr(t, "delete", d.Delete(name(0)), api.OK)
	wantErr(t, "delete", d.Delete(name(5)), api.OK)
	wantLog(t, l, []int64{0, 2, 5}, nil, 7)
	wantErr(t, "Sync", l.Sync(), api.ErrNone)
}

// What a log tells is no call: it is told while the machine stands still.
func TestWhatIsToldIsNoCall(t *testing.T) {
	for fuse := range 3 {
		d, l, frames := threeSegments(t)
		d.Fuse(fuse)
		wantLog(t, l, []int64{0, 2, 5}, frames, 7)
		wantLeft(t, d, fuse)
	}
}
