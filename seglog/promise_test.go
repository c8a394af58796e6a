package seglog_test

import (
	"bytes"
	"math/rand/v2"
	"slices"
	"sync"
	"testing"

	"governor/api"
	"governor/disk"
	"governor/seglog"
)

// The rules: P1, and F1 to F4 by their words

// twins is two disks to which the same is done, one with a log, the other with the words; what is told, and what is there, is the same.
type twins struct {
	t     *testing.T
	r     *rand.Rand
	size  int
	own   *disk.Disk
	other *disk.Disk
	log   *seglog.Log
	words *words
}

func newTwins(t *testing.T, seed uint64) *twins {
	r := rand.New(rand.NewPCG(seed, 6))
	room := []int{0, 20, 100, 300, 1000, 20000}[r.IntN(6)]
	w := &twins{t: t, r: r, size: 64 + r.IntN(2)*r.IntN(200), own: disk.New(room), other: disk.New(room)}
	w.open()
	return w
}

func (w *twins) both(do func(d *disk.Disk)) {
	do(w.own)
	do(w.other)
}

func (w *twins) open() {
	var e, want api.Errno
	w.log, e = seglog.Open(w.own, w.size)
	w.words, want = openByWords(w.other, w.size)
	wantErr(w.t, "Open", e, want)
	if (w.log == nil) != (e != api.OK) {
		w.t.Errorf("Open: error %d, log %v", e, w.log)
	}
}

func (w *twins) crash() {
	keep := make([]int, w.r.IntN(8))
	for i := range keep {
		keep[i] = w.r.IntN(60) - 10
	}
	w.both(func(d *disk.Disk) { d.Crash(keep) })
}

// meddle is what others do to the disk: files of segments, the list, and what is left from ahead are spoilt, torn, or taken away.
func (w *twins) meddle() {
	names := append(w.own.List(), "fix.tmp", "manifest.tmp", "manifest", name(w.r.Int64N(20)), "s1", "z")
	name := names[w.r.IntN(len(names))]
	b := [][]byte{nil, []byte("x"), []byte(head(w.r.Int64N(20))), []byte(seg(w.r.Int64N(20), "a", "b")), []byte(list(0, w.r.Int64N(20)))}[w.r.IntN(5)]
	what := w.r.IntN(4)
	w.both(func(d *disk.Disk) {
		switch what {
		case 0:
			d.Sync(name)
		case 1:
			d.Delete(name)
		case 2:
			d.Delete(name)
			d.Write(name, b)
		default:
			d.Write(name, b)
		}
	})
}

func (w *twins) append() {
	kind, body := w.r.IntN(17), []byte(text(w.r.IntN(1+w.r.IntN(60))))
	if w.r.IntN(40) == 0 {
		body = []byte(text(1790 + w.r.IntN(20)))
	}
	n, e := w.log.Append(kind, body)
	m, want := w.words.Append(kind, body)
	if n != m || e != want {
		w.t.Errorf("Append of type %d, %d bytes: %d, error %d, not %d, error %d", kind, len(body), n, e, m, want)
	}
}

// onLog is a step of the log's own.
func (w *twins) onLog() {
	switch w.r.IntN(10) {
	case 0:
		seq := w.r.Int64N(w.log.Next()+5) - 2
		wantErr(w.t, "Retain", w.log.Retain(seq), w.words.Retain(seq))
	case 1, 2:
		wantErr(w.t, "Sync", w.log.Sync(), w.words.Sync())
	default:
		w.append()
	}
}

func (w *twins) step() {
	n := w.r.IntN(12)
	switch what := w.r.IntN(20); {
	case what == 0:
		w.both(func(d *disk.Disk) { d.Fuse(n) })
	case what == 1:
		w.both(func(d *disk.Disk) { d.Fuse(-1) })
	case what == 2:
		w.both(func(d *disk.Disk) { d.Fail(n % 3) })
	case what == 3:
		w.crash()
	case what == 4 && n < 3:
		w.meddle()
	case what < 6 || w.log == nil:
		w.crash()
		w.open()
	case what == 6:
		w.open()
	default:
		w.onLog()
	}
}

// Over scripts of any steps, the same ones each time, what is told is what the words tell, and so is what is there; also of a log whose disk was changed behind it.
func TestScripts(t *testing.T) {
	for seed := range uint64(600) {
		w := newTwins(t, seed)
		for range 120 {
			w.step()
			wantFiles(t, w.own, look(w.other)...)
			if w.log != nil {
				wantLog(t, w.log, w.words.segs, w.words.Frames(), w.words.next)
			}
			if t.Failed() {
				t.Fatal("script", seed)
			}
		}
		wantLeft(t, w.own, left(w.other))
	}
}

// F1 by its words, over rooms, fuses and Syncs that fail.
func TestOpenByTheWords(t *testing.T) {
	founds := [][]file{
		nil,
		{whole(0, "a"), whole(3)},
		{listed(0, 2), whole(0, "a", "b"), lasting(name(2), seg(2, "c")+"x"), whole(3)},
		{listed(0, 2, 3), whole(0, "a", "b"), lasting(name(2), seg(2, "c")+"x"), whole(3), lasting("fix.tmp", "xyz"), lasting("manifest.tmp", "xyz")},
		{listed(0, 2, 3), whole(0, "a", "b"), whole(3), lasting("manifest.tmp", list(0))},
	}
	for _, files := range founds {
		size := 0
		for _, f := range files {
			size += len(f.bytes)
		}
		for room := size; room < size+50; room++ {
			for fuse := -1; fuse < 14; fuse++ {
				for fails := range 2 {
					own, other := filled(t, room, files...), filled(t, room, files...)
					for _, d := range []*disk.Disk{own, other} {
						d.Fuse(fuse)
						d.Fail(fails)
					}
					_, e := seglog.Open(own, 64)
					_, want := openByWords(other, 64)
					wantErr(t, "Open", e, want)
					wantFiles(t, own, look(other)...)
					wantLeft(t, own, left(other))
				}
			}
		}
	}
}

// P6.2 and P6.3, and T1

// history is a log, all that was appended to it, and how much of that lasts at least.
type history struct {
	t        *testing.T
	r        *rand.Rand
	d        *disk.Disk
	size     int
	l        *seglog.Log
	appended []api.Frame
	safe     int64
	first    int64
}

func newHistory(t *testing.T, seed uint64) *history {
	r := rand.New(rand.NewPCG(seed, 66))
	room := []int{400, 1000, 4000, 20000}[r.IntN(4)]
	h := &history{t: t, r: r, d: disk.New(room), size: 64 + r.IntN(2)*r.IntN(300)}
	h.l = openOn(t, h.d, h.size)
	return h
}

func (h *history) append() {
	kind, body := 1+h.r.IntN(15), make([]byte, h.r.IntN(1+h.r.IntN(60)))
	for i := range body {
		body[i] = byte(h.r.IntN(256))
	}
	segments := len(h.l.Segments())
	n, e := h.l.Append(kind, body)
	if len(h.l.Segments()) > segments {
		// What was there was made to last ahead of the segment that was laid.
		h.safe = int64(len(h.appended))
	}
	if e != api.OK {
		return
	}
	if n != int64(len(h.appended)) {
		h.t.Errorf("Append of frame %d: %d", len(h.appended), n)
	}
	h.appended = append(h.appended, api.Frame{Type: kind, Seq: n, Body: body})
}

func (h *history) sync() {
	if h.l.Sync() == api.OK {
		h.safe = int64(len(h.appended))
	}
}

// retain asks P6.4: whole segments, the oldest first, and no frame from the number on; those that could go are gone, where there is no error.
func (h *history) retain() {
	ahead, seq := h.l.Segments(), h.first+h.r.Int64N(h.l.Next()-h.first+3)-1
	e := h.l.Retain(seq)
	stay := h.l.Segments()
	if len(stay) == 0 || len(stay) > len(ahead) || !slices.Equal(stay, ahead[len(ahead)-len(stay):]) {
		h.t.Errorf("Retain of %d: segments %v became %v", seq, ahead, stay)
	}
	if stay[0] > max(seq, ahead[0]) || e == api.OK && len(stay) > 1 && stay[1] <= seq {
		h.t.Errorf("Retain of %d: error %d, segments are %v", seq, e, stay)
	}
	h.first = stay[0]
}

// crash asks that what is opened is a prefix of what was appended, from the first number retained on, with all that lasts. An Open may be stopped itself, and is done once more.
func (h *history) crash() {
	for h.l = nil; h.l == nil; {
		keep := make([]int, h.r.IntN(20))
		for i := range keep {
			keep[i] = h.r.IntN(100)
		}
		h.d.Crash(keep)
		if h.r.IntN(2) == 0 {
			h.d.Fuse(h.r.IntN(8))
		}
		h.d.Fail(max(h.r.IntN(4)-2, 0))
		var e api.Errno
		h.l, e = seglog.Open(h.d, h.size)
		if e == api.ErrFull {
			h.l = nil
			return
		}
	}
	next := h.l.Next()
	if next < h.safe || next > int64(len(h.appended)) {
		h.t.Errorf("next is %d, not %d to %d", next, h.safe, len(h.appended))
		return
	}
	h.appended, h.safe = h.appended[:next], next
	h.check()
	h.d.Fuse(-1)
	h.d.Fail(0)
}

func (h *history) check() {
	if got := h.l.Frames(); !alike(got, h.appended[h.first:]) || h.l.Segments()[0] != h.first || h.l.Next() != int64(len(h.appended)) {
		h.t.Errorf("frames from %d on are %v, not %v", h.l.Segments()[0], got, h.appended[h.first:])
	}
}

func (h *history) step() {
	switch what := h.r.IntN(30); {
	case what < 2:
		h.crash()
	case what == 2:
		h.d.Fuse(h.r.IntN(20))
	case what == 3:
		h.d.Fail(h.r.IntN(3))
	case what == 4:
		h.retain()
	case what < 8:
		h.sync()
	default:
		h.append()
	}
}

func TestHistories(t *testing.T) {
	crashes := 0
	for seed := range uint64(400) {
		h := newHistory(t, seed)
		for range 120 {
			h.step()
			if h.l == nil {
				// The disk has no room to mend what is torn.
				break
			}
			h.check()
			if t.Failed() {
				t.Fatal("history", seed)
			}
		}
		if h.l != nil {
			h.crash()
			crashes++
		}
	}
	if crashes < 300 {
		t.Error("only", crashes, "histories ended")
	}
}

// The same frames are recovered, however much of the last one is kept: as many as are there as a whole.
func TestEachByteKept(t *testing.T) {
	bodies := []string{"", "a", text(3), "", text(20)}
	for synced := range len(bodies) + 1 {
		for keep := range 90 {
			d := disk.New(4000)
			l := openOn(t, d, 1000)
			put(t, l, bodies[:synced]...)
			wantErr(t, "Sync", l.Sync(), api.OK)
			put(t, l, bodies[synced:]...)
			d.Crash([]int{0, keep})
			frames := row(0, bodies[:synced]...)
			rest := keep
			for _, f := range row(0, bodies...)[synced:] {
				if rest -= len(record(f)); rest < 0 {
					break
				}
				frames = append(frames, f)
			}
			wantLog(t, openOn(t, d, 1000), []int64{0}, frames, int64(len(frames)))
			wantFiles(t, d, listed(0), whole(0, bodies[:len(frames)]...))
		}
	}
}

// P6.5, behind anything: what Open made is opened once more by one Sync, that changes nothing.
func TestAgain(t *testing.T) {
	for seed := range uint64(300) {
		w := newTwins(t, 1000000+seed)
		for range 60 {
			w.step()
			w.meddle()
		}
		w.own.Fuse(-1)
		w.own.Fail(0)
		l, e := seglog.Open(w.own, 64)
		if e != api.OK {
			continue
		}
		files := look(w.own)
		w.own.Fuse(1)
		wantLog(t, openOn(t, w.own, 64), l.Segments(), l.Frames(), l.Next())
		wantFiles(t, w.own, files...)
		wantLeft(t, w.own, 0)
		// All of the log's own lasts, whatever becomes of other files.
		w.own.Crash(nil)
		wantLog(t, openOn(t, w.own, 64), l.Segments(), l.Frames(), l.Next())
		if got, want := ofLog(look(w.own)), ofLog(files); !slices.Equal(got, want) {
			t.Errorf("files are %v, not %v", got, want)
		}
	}
}

// ofLog is those of the files that are a log's.
func ofLog(files []file) []file {
	return slices.DeleteFunc(slices.Clone(files), func(f file) bool { return f.name != "manifest" && !isSegment(f.name) })
}

// The rules: P3, what is handed in stays as it was, its spare room too, and is not kept

func TestTheBodyStaysAndIsNotKept(t *testing.T) {
	for size := range 60 {
		d := disk.New(4000)
		l := openOn(t, d, 64)
		put(t, l, "first")
		whole := []byte("ahead" + text(size) + "spare room")
		before := bytes.Clone(whole)
		for _, kind := range []int{0, 1, 2, 16} {
			l.Append(kind, whole[5:5+size])
		}
		d.Fuse(size % 8)
		l.Append(1, whole[5:5+size])
		if !bytes.Equal(whole, before) {
			t.Errorf("%q became %q", before, whole)
		}
		frames, files := l.Frames(), look(d)
		for i := range whole {
			whole[i] = 'y'
		}
		wantFiles(t, d, files...)
		wantLog(t, l, l.Segments(), frames, l.Next())
		if string(frames[1].Body) != text(size) {
			t.Errorf("a frame of %q", frames[1].Body)
		}
	}
}

// spoil writes over a list and over its spare room.
func spoil[T any](l []T, with T) {
	l = l[:cap(l)]
	for i := range l {
		l[i] = with
	}
}

// The rules: P3, what comes out is one's own

func TestWhatComesOutIsNew(t *testing.T) {
	d, l, frames := threeSegments(t)
	files := look(d)
	for range 3 {
		segments, got, again := l.Segments(), l.Frames(), l.Frames()
		for _, f := range got {
			spoil(f.Body, 'z')
		}
		if !alike(again, frames) {
			t.Errorf("two lists of frames share bodies: %v", again)
		}
		spoil(segments, 77)
		spoil(got, api.Frame{Type: 9, Seq: 99})
		wantFiles(t, d, files...)
		wantLog(t, l, []int64{0, 2, 5}, frames, 7)
	}
	spoil(l.Segments(), 77)
	put(t, l, text(30))
	wantLog(t, l, []int64{0, 2, 5, 7}, append(frames, row(7, text(30))...), 8)
	spoil(l.Segments(), 77)
	wantErr(t, "Retain", l.Retain(2), api.OK)
	wantLog(t, l, []int64{2, 5, 7}, append(frames, row(7, text(30))...)[2:], 8)
	wantLog(t, openOn(t, d, 64), []int64{2, 5, 7}, append(frames, row(7, text(30))...)[2:], 8)
}

// A list that was told stays as it was, whatever the log does then.
func TestWhatCameOutStays(t *testing.T) {
	_, l, frames := threeSegments(t)
	segments, got := l.Segments(), l.Frames()
	put(t, l, text(30), text(40), text(40))
	wantErr(t, "Retain", l.Retain(8), api.OK)
	if !slices.Equal(segments, []int64{0, 2, 5}) || !alike(got, frames) {
		t.Errorf("they became %v and %v", segments, got)
	}
}

// Logs are told apart, be they used one behind the other, or many at a time.
func TestManyLogs(t *testing.T) {
	var group sync.WaitGroup
	for worker := range 8 {
		group.Go(func() {
			d := disk.New(8000)
			l, _ := seglog.Open(d, 64)
			var want []api.Frame
			for i := range int64(30) {
				body := []byte(text(worker*5 + int(i)%3))
				l.Append(1+worker, body)
				want = append(want, api.Frame{Type: 1 + worker, Seq: i, Body: body})
			}
			l.Sync()
			d.Crash(nil)
			if l, e := seglog.Open(d, 64); e != api.OK || !alike(l.Frames(), want) {
				t.Errorf("worker %d: error %d", worker, e)
			}
		})
	}
	group.Wait()
}
