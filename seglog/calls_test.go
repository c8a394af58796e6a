package seglog_test

import (
	"slices"
	"testing"

	"governor/api"
	"governor/disk"
	"governor/seglog"
)

// call is one of a disk's: what it is, the file's name, and the bytes, or the other name.
type call struct {
	what string
	name string
	with string
}

func write(name string, b string) call   { return call{"write", name, b} }
func makeLast(name string) call          { return call{"sync", name, ""} }
func rename(name string, to string) call { return call{"rename", name, to} }
func remove(name string) call            { return call{"delete", name, ""} }

func (c call) do(d *disk.Disk) api.Errno {
	switch c.what {
	case "write":
		return d.Write(c.name, []byte(c.with))
	case "sync":
		return d.Sync(c.name)
	case "rename":
		return d.Rename(c.name, c.with)
	}
	return d.Delete(c.name)
}

// swap is the calls of manifest.Swap to a list, lay those of laying a segment, behind which the list is that.
func swap(l ...int64) []call {
	return []call{write("manifest.tmp", list(l...)), makeLast("manifest.tmp"), rename("manifest.tmp", "manifest")}
}

func lay(first int64, l ...int64) []call {
	return append([]call{write(name(first), head(first)), makeLast(name(first))}, swap(l...)...)
}

// mended is the calls that have a file be other bytes.
func mended(name string, b string) []call {
	return []call{write("fix.tmp", b), makeLast("fix.tmp"), rename("fix.tmp", name)}
}

// scene is where something is done: a disk, and a log of it, where it is open.
type scene struct {
	d *disk.Disk
	l *seglog.Log
}

// wantCalls asks that something is just these calls in their order: with each fuse the disk is as that many of them leave it, the first error is told, and as many calls are left. Without a fuse that error is told.
func wantCalls(t *testing.T, begin func() scene, do func(s scene) api.Errno, e api.Errno, calls ...call) {
	t.Helper()
	for fuse := -1; fuse < len(calls)+2; fuse++ {
		own, words := begin(), begin().d
		own.d.Fuse(fuse)
		words.Fuse(fuse)
		first := api.OK
		for _, c := range calls {
			if e := c.do(words); first == api.OK {
				first = e
			}
		}
		if fuse < 0 && first != e {
			t.Errorf("the calls answer %d, not %d", first, e)
		}
		wantErr(t, "what is done", do(own), first)
		wantFiles(t, own.d, look(words)...)
		wantLeft(t, own.d, left(words))
		if t.Failed() {
			t.Fatal("with a fuse of ", fuse)
		}
	}
}

// somewhat is how much is kept of each file: nothing, a part, all.
func somewhat() [][]int {
	var keeps [][]int
	for _, keep := range []int{0, 1, 5, 9, 12, 13, 30, 5000} {
		keeps = append(keeps, slices.Repeat([]int{keep}, api.MaxFiles))
	}
	return append(keeps, []int{5000}, []int{0, 5000}, []int{0, 0, 5000, 3}, []int{5000, 5000, 0, 5000, 5})
}

// others is a file that takes so many bytes of the room.
func others(size int) file { return lasting("a", text(size)) }

// openKept opens a log behind a crash: where there is no room to mend it, others make some.
func openKept(t *testing.T, d *disk.Disk, size int) *seglog.Log {
	t.Helper()
	l, e := seglog.Open(d, size)
	if e != api.ErrFull {
		wantErr(t, "Open", e, api.OK)
		return l
	}
	if l != nil {
		t.Error("a log beside an error")
	}
	makeRoom(t, d)
	return openOn(t, d, size)
}

// makeRoom deletes the files of others.
func makeRoom(t *testing.T, d *disk.Disk) {
	t.Helper()
	for _, name := range d.List() {
		if name[0] == 'a' {
			wantErr(t, "delete", d.Delete(name), api.OK)
		}
	}
}

// wantKept asks that behind it, however it ends, and whatever a crash keeps, a log is opened of a prefix of these frames, and of so many at least, from the first one on.
func wantKept(t *testing.T, begin func() scene, do func(s scene) api.Errno, calls int, frames []api.Frame, safe int) {
	t.Helper()
	for fuse := -1; fuse < calls+2; fuse++ {
		for _, keep := range somewhat() {
			s := begin()
			s.d.Fuse(fuse)
			do(s)
			s.d.Crash(keep)
			l := openKept(t, s.d, 64)
			got := l.Frames()
			if len(got) < safe || len(got) > len(frames) || !alike(got, frames[:len(got)]) {
				t.Fatalf("fuse %d, kept %v: frames are %v, not %d at least of %v", fuse, keep[:1], got, safe, frames)
			}
			makeRoom(t, s.d)
			wantAppended(t, l, "on")
		}
	}
}

// P6.1, F2: Append, Sync

// within is a log whose last segment, of 2, has 52 bytes, of which all but the last frame's last.
func within(t *testing.T, room int, more ...file) func() scene {
	return func() scene {
		d := filled(t, room, append(slices.Clone(more), listed(0, 2), whole(0, text(10), text(10)), whole(2, ""))...)
		l := openOn(t, d, 64)
		put(t, l, text(6))
		return scene{d, l}
	}
}

// used is how many bytes within's files have.
const used = 13 + 54 + 12 + 11 + 17

func withinFrames(more ...string) []api.Frame {
	return row(0, append([]string{text(10), text(10), "", text(6)}, more...)...)
}

// failing is a scene in which so many Syncs fail.
func failing(syncs int, begin func() scene) func() scene {
	return func() scene {
		s := begin()
		s.d.Fail(syncs)
		return s
	}
}

// appends is an Append of a body of so many bytes, which has nothing beside an error.
func appends(t *testing.T, size int) func(s scene) api.Errno {
	return func(s scene) api.Errno {
		next, segments, frames := s.l.Next(), len(s.l.Segments()), s.l.Frames()
		n, e := s.l.Append(kindOf(next), []byte(text(size)))
		switch {
		case e == api.OK && (n != next || s.l.Next() != next+1):
			t.Errorf("Append: %d, not %d, next %d", n, next, s.l.Next())
		case e != api.OK && (n != 0 || s.l.Next() != next || !alike(s.l.Frames(), frames)):
			t.Errorf("Append: %d, error %d, next %d, not %d", n, e, s.l.Next(), next)
		case len(s.l.Segments()) > segments+1:
			t.Errorf("segments are %v", s.l.Segments())
		}
		return e
	}
}

func TestAppendIsOneCall(t *testing.T) {
	begin := within(t, 4000)
	want := write(name(2), record(row(4, text(13))[0]))
	wantCalls(t, begin, appends(t, 13), api.OK, want)
	wantCalls(t, failing(1, begin), appends(t, 13), api.OK, want)
	wantKept(t, begin, appends(t, 13), 1, withinFrames(text(13)), 3)
}

func TestAppendThatLays(t *testing.T) {
	begin := within(t, 4000)
	calls := slices.Concat([]call{makeLast(name(2))}, lay(4, 0, 2, 4), []call{write(name(4), record(row(4, text(14))[0]))})
	wantCalls(t, begin, appends(t, 14), api.OK, calls...)
	wantKept(t, begin, appends(t, 14), len(calls), withinFrames(text(14)), 3)
}

// With the Sync that is ahead of the laying all that was appended lasts, whatever comes then.
func TestAppendThatLaysMakesAllLast(t *testing.T) {
	begin := func() scene {
		s := within(t, 4000)()
		s.d.Fuse(1)
		appends(t, 14)(s)
		wantFiles(t, s.d, listed(0, 2), whole(0, text(10), text(10)), whole(2, "", text(6)))
		return s
	}
	wantKept(t, begin, appends(t, 14), 7, withinFrames(text(14)), 4)
}

// A file of the segment's name that was left from ahead goes first, and so does manifest.tmp.
func TestAppendThatLaysWithFilesLeft(t *testing.T) {
	for _, old := range []file{lasting(name(4), ""), lasting(name(4), "none"), whole(4), whole(4, "other", "frames"), whole(9)} {
		begin := func() scene {
			s := within(t, 4000)()
			for _, f := range []file{old, lasting("manifest.tmp", list(7))} {
				wantErr(t, "write", s.d.Write(f.name, []byte(f.bytes)), api.OK)
				wantErr(t, "sync", s.d.Sync(f.name), api.OK)
			}
			return s
		}
		calls := []call{makeLast(name(2))}
		if old.name == name(4) {
			calls = append(calls, remove(name(4)))
		}
		calls = slices.Concat(calls, []call{write(name(4), head(4)), makeLast(name(4)), remove("manifest.tmp")}, swap(0, 2, 4), []call{write(name(4), record(row(4, text(14))[0]))})
		wantCalls(t, begin, appends(t, 14), api.OK, calls...)
		wantKept(t, begin, appends(t, 14), len(calls), withinFrames(text(14)), 3)
	}
}

// Where the machine stood still, and goes on without a crash, the same Append lays the segment once more.
func TestAppendGoesOn(t *testing.T) {
	for fuse := range 7 {
		s := within(t, 4000)()
		s.d.Fuse(fuse)
		wantNotAppended(t, s.l, 1, text(14), api.ErrDead)
		segments := []int64{0, 2}
		if fuse == 6 {
			segments = append(segments, 4)
		}
		wantLog(t, s.l, segments, withinFrames(), 4)
		s.d.Fuse(-1)
		put(t, s.l, text(14))
		wantLog(t, s.l, []int64{0, 2, 4}, withinFrames(text(14)), 5)
		wantErr(t, "Sync", s.l.Sync(), api.OK)
		wantFiles(t, s.d, listed(0, 2, 4), whole(0, text(10), text(10)), whole(2, "", text(6)), whole(4, text(14)))
	}
}

// A greater frame needs no segment where the last one has none.
func TestAppendToNoFrames(t *testing.T) {
	begin := func() scene {
		d := filled(t, 4000, listed(0, 2), whole(0, "", ""), whole(2))
		return scene{d, openOn(t, d, 64)}
	}
	wantCalls(t, begin, appends(t, 1800), api.OK, write(name(2), record(row(2, text(1800))[0])))
	wantKept(t, begin, appends(t, 1800), 1, row(0, "", "", text(1800)), 2)
}

func TestSync(t *testing.T) {
	begin := within(t, 4000)
	do := func(s scene) api.Errno { return s.l.Sync() }
	wantCalls(t, begin, do, api.OK, makeLast(name(2)))
	wantCalls(t, failing(1, begin), do, api.ErrIO, makeLast(name(2)))
	wantKept(t, begin, do, 1, withinFrames(), 3)
	wantKept(t, func() scene {
		s := begin()
		wantErr(t, "Sync", s.l.Sync(), api.OK)
		return s
	}, do, 1, withinFrames(), 4)
}

// P6.1, F2: where a Sync fails

func TestAppendWhereSyncFails(t *testing.T) {
	begin := failing(1, within(t, 4000))
	wantCalls(t, begin, appends(t, 14), api.ErrIO, makeLast(name(2)))
	wantKept(t, begin, appends(t, 14), 1, withinFrames(), 3)
	s := begin()
	wantNotAppended(t, s.l, 1, text(14), api.ErrIO)
	wantLog(t, s.l, []int64{0, 2}, withinFrames(), 4)
	put(t, s.l, text(14))
	wantLog(t, s.l, []int64{0, 2, 4}, withinFrames(text(14)), 5)
}

// P6.1, F2: without room

func TestAppendWithoutRoom(t *testing.T) {
	frame := write(name(2), record(row(4, text(13))[0]))
	for room := used; room < used+24; room++ {
		wantCalls(t, within(t, room), appends(t, 13), api.ErrFull, frame)
		wantKept(t, within(t, room+100, others(100)), appends(t, 13), 1, withinFrames(), 3)
	}
	wantCalls(t, within(t, used+24), appends(t, 13), api.OK, frame)
}

// Without room for the head, for the list, for the frame: the last leaves the segment that was laid.
func TestAppendThatLaysWithoutRoom(t *testing.T) {
	frame := write(name(4), record(row(4, text(14))[0]))
	tmp := write("manifest.tmp", list(0, 2, 4))
	for room := used; room <= used+12+25+4; room++ {
		begin := within(t, room)
		calls := []call{makeLast(name(2)), write(name(4), head(4))}
		e, segments := api.ErrFull, []int64{0, 2}
		switch {
		case room < used+12:
			calls = append(calls, remove(name(4)))
		case room < used+12+17:
			calls = append(calls, makeLast(name(4)), tmp, remove("manifest.tmp"), remove(name(4)))
		default:
			calls = slices.Concat(calls, []call{makeLast(name(4))}, swap(0, 2, 4), []call{frame})
			segments = append(segments, 4)
			if room == used+12+25+4 {
				e = api.OK
			}
		}
		wantCalls(t, begin, appends(t, 14), e, calls...)
		s := begin()
		appends(t, 14)(s)
		if got := s.l.Segments(); !slices.Equal(got, segments) {
			t.Errorf("segments are %v, not %v", got, segments)
		}
		wantKept(t, within(t, room+100, others(100)), appends(t, 14), len(calls), withinFrames(text(14)), 3)
	}
}

// A segment that was laid stays, and takes the frame that had no room as soon as there is some.
func TestAppendBehindASegmentThatStayed(t *testing.T) {
	s := within(t, used+12+25, lasting("b", "0123"))()
	wantNotAppended(t, s.l, 1, text(14), api.ErrFull)
	wantLog(t, s.l, []int64{0, 2, 4}, withinFrames(), 4)
	wantNotAppended(t, s.l, 1, text(14), api.ErrFull)
	wantLog(t, s.l, []int64{0, 2, 4}, withinFrames(), 4)
	wantErr(t, "Retain", s.l.Retain(2), api.OK)
	put(t, s.l, text(14))
	wantLog(t, s.l, []int64{2, 4}, withinFrames(text(14))[2:], 5)
	wantLog(t, openOn(t, s.d, 64), []int64{2, 4}, withinFrames(text(14))[2:], 5)
}

// P6.1, F2: of full files

func TestAppendThatLaysOfFullFiles(t *testing.T) {
	frame := write(name(4), record(row(4, text(14))[0]))
	// Three files are the log's own.
	full := within(t, 4000, crowd(api.MaxFiles-3)...)
	wantCalls(t, full, appends(t, 13), api.OK, write(name(2), record(row(4, text(13))[0])))
	wantCalls(t, full, appends(t, 14), api.ErrFull, makeLast(name(2)), write(name(4), head(4)), remove(name(4)))
	one := within(t, 4000, crowd(api.MaxFiles-4)...)
	wantCalls(t, one, appends(t, 14), api.ErrFull, makeLast(name(2)), write(name(4), head(4)), makeLast(name(4)), write("manifest.tmp", list(0, 2, 4)), remove("manifest.tmp"), remove(name(4)))
	two := within(t, 4000, crowd(api.MaxFiles-5)...)
	wantCalls(t, two, appends(t, 14), api.OK, slices.Concat([]call{makeLast(name(2))}, lay(4, 0, 2, 4), []call{frame})...)
	for _, begin := range []func() scene{full, one} {
		s := begin()
		wantNotAppended(t, s.l, 1, text(14), api.ErrFull)
		wantLog(t, s.l, []int64{0, 2}, withinFrames(), 4)
		wantKept(t, begin, appends(t, 14), 6, withinFrames(text(14)), 3)
	}
}

// P6.1, F3, and P6.4: Retain

// retained is a log of segments of 0, 2 and 5, of which all but the last frame lasts.
func retained(t *testing.T, room int, more ...file) func() scene {
	return func() scene {
		d := filled(t, room, append(slices.Clone(more), listed(0, 2, 5), whole(0, "a", "b"), whole(2, "c", "d", "e"), whole(5, "f"))...)
		l := openOn(t, d, 1000)
		put(t, l, "g")
		return scene{d, l}
	}
}

func retains(seq int64) func(s scene) api.Errno {
	return func(s scene) api.Errno { return s.l.Retain(seq) }
}

// wantRetained asks that behind a Retain, whatever its end, the segments are those that were there, or those that it has stay: the latter as soon as the list was swapped; and the same behind a crash.
func wantRetained(t *testing.T, begin func() scene, seq int64, swapped int, segments ...int64) {
	t.Helper()
	frames := row(0, "a", "b", "c", "d", "e", "f", "g")
	for fuse := range 9 {
		s := begin()
		s.d.Fuse(fuse)
		s.l.Retain(seq)
		want := []int64{0, 2, 5}
		if fuse >= swapped {
			want = segments
		}
		wantLog(t, s.l, want, frames[want[0]:], 7)
		for _, keep := range somewhat() {
			s := begin()
			s.d.Fuse(fuse)
			s.l.Retain(seq)
			s.d.Crash(keep)
			l := openKept(t, s.d, 1000)
			if next := l.Next(); next != 6 && next != 7 {
				t.Errorf("next is %d", next)
			}
			wantLog(t, l, want, frames[want[0]:l.Next()], l.Next())
			own := slices.DeleteFunc(s.d.List(), func(name string) bool { return name[0] == 'a' })
			if len(own) != len(want)+1 {
				t.Errorf("files are %v", s.d.List())
			}
		}
	}
}

func TestRetainIsTheseCalls(t *testing.T) {
	begin := retained(t, 4000)
	for _, seq := range []int64{2, 4} {
		wantCalls(t, begin, retains(seq), api.OK, append(swap(2, 5), remove(name(0)))...)
		wantRetained(t, begin, seq, 3, 2, 5)
	}
	for _, seq := range []int64{5, 100} {
		wantCalls(t, begin, retains(seq), api.OK, append(swap(5), remove(name(0)), remove(name(2)))...)
		wantRetained(t, begin, seq, 3, 5)
	}
	wantCalls(t, begin, retains(1), api.OK)
	wantRetained(t, begin, 1, 0, 0, 2, 5)
}

func TestRetainWithAFileLeft(t *testing.T) {
	begin := func() scene {
		s := retained(t, 4000)()
		wantErr(t, "write", s.d.Write("manifest.tmp", []byte(list(5))), api.OK)
		return s
	}
	wantCalls(t, begin, retains(3), api.OK, slices.Concat([]call{remove("manifest.tmp")}, swap(2, 5), []call{remove(name(0))})...)
	wantRetained(t, begin, 3, 4, 2, 5)
}

// Behind the Swap the first error is told, and all are tried.
func TestRetainOfFilesThatAreNotThere(t *testing.T) {
	for _, gone := range [][]int64{{0}, {2}, {0, 2}} {
		begin := func() scene {
			s := retained(t, 4000)()
			for _, first := range gone {
				wantErr(t, "delete", s.d.Delete(name(first)), api.OK)
			}
			return s
		}
		wantCalls(t, begin, retains(6), api.ErrNone, append(swap(5), remove(name(0)), remove(name(2)))...)
		s := begin()
		wantErr(t, "Retain", s.l.Retain(6), api.ErrNone)
		wantLog(t, s.l, []int64{5}, row(5, "f", "g"), 7)
		wantFiles(t, s.d, listed(5), file{name(5), seg(5, "f", "g"), 24})
		wantErr(t, "Retain", s.l.Retain(6), api.OK)
	}
}

func TestRetainWhereSyncFails(t *testing.T) {
	begin := failing(1, retained(t, 4000))
	wantCalls(t, begin, retains(3), api.ErrIO, write("manifest.tmp", list(2, 5)), makeLast("manifest.tmp"), remove("manifest.tmp"))
	wantRetained(t, begin, 3, 100, 2, 5)
	s := begin()
	wantErr(t, "Retain", s.l.Retain(6), api.ErrIO)
	wantErr(t, "Retain", s.l.Retain(6), api.OK)
	wantLog(t, s.l, []int64{5}, row(5, "f", "g"), 7)
}

func TestRetainWithoutRoom(t *testing.T) {
	size := 17 + 36 + 48 + 36
	for more := range 13 {
		begin := retained(t, size+more+200, others(200))
		wantCalls(t, begin, retains(3), api.ErrFull, write("manifest.tmp", list(2, 5)), remove("manifest.tmp"))
		wantRetained(t, begin, 3, 100, 2, 5)
	}
	wantCalls(t, retained(t, size+13), retains(3), api.OK, append(swap(2, 5), remove(name(0)))...)
	full := retained(t, 4000, crowd(api.MaxFiles-4)...)
	wantCalls(t, full, retains(3), api.ErrFull, write("manifest.tmp", list(2, 5)), remove("manifest.tmp"))
	wantRetained(t, full, 3, 100, 2, 5)
	s := full()
	wantErr(t, "Retain", s.l.Retain(3), api.ErrFull)
	wantLog(t, s.l, []int64{0, 2, 5}, row(0, "a", "b", "c", "d", "e", "f", "g"), 7)
}
