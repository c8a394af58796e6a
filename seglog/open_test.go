package seglog_test

import (
	"bytes"
	"slices"
	"testing"

	"governor/api"
	"governor/seglog"
)

// found is a disk as Open finds it, all files of which last: which calls Open is then, and which segments, frames and number behind them there are.
type found struct {
	files    []file
	calls    []call
	segments []int64
	frames   []api.Frame
	next     int64
}

func (f found) begin(t *testing.T) func() scene {
	return func() scene { return scene{filled(t, 8000, f.files...), nil} }
}

// after is the files behind Open: the list's, the segments', and all that are none of the log's.
func (f found) after() []file {
	files := []file{listed(f.segments...)}
	for i, first := range f.segments {
		end := f.next
		if i+1 < len(f.segments) {
			end = f.segments[i+1]
		}
		b := head(first)
		for _, frame := range f.frames {
			if first <= frame.Seq && frame.Seq < end {
				b += record(frame)
			}
		}
		files = append(files, lasting(name(first), b))
	}
	for _, file := range f.files {
		if file.name[0] != 's' && file.name != "manifest" && file.name != "manifest.tmp" && file.name != "fix.tmp" || slices.Contains(noSegments, file.name) {
			files = append(files, file)
		}
	}
	slices.SortFunc(files, func(a file, b file) int { return bytes.Compare([]byte(a.name), []byte(b.name)) })
	return files
}

// noSegments is names that are near those of segments' files, and of the log's own.
var noSegments = []string{"s", "s0", "s000000000", "s00000000000", "s0000000000.", "s-000000001", "s.000000001", "s000000000a", "s1073741825", "s4294967296", "s9999999999", "t0000000000", "0000000000", "manifest-", "manifest.tm", "manifest.tmp0", "fix", "fix.tmp0", "fix-tmp", "ss000000000"}

// none is what is found where no segment is good: what is there of segments goes, and one is laid of 0.
func none(files []file, gone ...string) found {
	f := found{files: files, segments: []int64{0}}
	for _, name := range gone {
		f.calls = append(f.calls, remove(name))
	}
	f.calls = append(f.calls, lay(0, 0)...)
	return f
}

func opens(t *testing.T) func(s scene) api.Errno {
	return func(s scene) api.Errno {
		l, e := seglog.Open(s.d, 64)
		if (l == nil) != (e != api.OK) {
			t.Errorf("Open: error %d, log %v", e, l)
		}
		return e
	}
}

// wantFound asks for all that an Open is: what is told behind it, its calls by each fuse, what a crash leaves, a Sync that fails, and a second Open.
func wantFound(t *testing.T, f found) {
	t.Helper()
	d := f.begin(t)().d
	wantLog(t, openOn(t, d, 64), f.segments, f.frames, f.next)
	wantFiles(t, d, f.after()...)
	wantAgain(t, f)
	wantCalls(t, f.begin(t), opens(t), api.OK, f.calls...)
	wantCalls(t, failing(1, f.begin(t)), opens(t), api.ErrIO, upToSync(f.calls)...)
	for fuse := range len(f.calls) + 1 {
		for _, keep := range somewhat() {
			for fails := range 2 {
				s := failing(fails, f.begin(t))()
				s.d.Fuse(fuse)
				opens(t)(s)
				s.d.Crash(keep)
				wantLog(t, openOn(t, s.d, 64), f.segments, f.frames, f.next)
				wantFiles(t, s.d, f.after()...)
			}
		}
	}
	if t.Failed() {
		t.Fatalf("of %v", f.files)
	}
}

// wantAgain asks P6.5: what is open already is opened by one Sync, which changes nothing.
func wantAgain(t *testing.T, f found) {
	t.Helper()
	s := f.begin(t)()
	openOn(t, s.d, 64)
	files := look(s.d)
	for range 3 {
		s.d.Fuse(1)
		wantLog(t, openOn(t, s.d, 64), f.segments, f.frames, f.next)
		wantFiles(t, s.d, files...)
		wantLeft(t, s.d, 0)
		s.d.Crash(nil)
	}
}

// upToSync is what is left of calls, where the first Sync fails: what was laid goes, and so does a list that was to be swapped; good bytes stay where they are.
func upToSync(calls []call) []call {
	i := slices.IndexFunc(calls, func(c call) bool { return c.what == "sync" })
	calls = slices.Clone(calls[:i+1])
	laid := i > 0 && calls[i-1].what == "write" && calls[i-1].name == calls[i].name
	if laid && calls[i].name != "fix.tmp" {
		calls = append(calls, remove(calls[i].name))
	}
	return calls
}

// P6.1, F1: no manifest, or one that is none

func TestOpenOfNoFiles(t *testing.T) { wantFound(t, none(nil)) }

func TestOpenWithoutAManifest(t *testing.T) {
	wantFound(t, none([]file{whole(0, "a", "b")}, name(0)))
	wantFound(t, none([]file{whole(0, "a", "b"), whole(2, "c"), whole(7), lasting(name(api.MaxSeq), "x")}, name(0), name(2), name(7), name(api.MaxSeq)))
	wantFound(t, none([]file{lasting(name(3), "")}, name(3)))
}

func TestOpenOfASpoiltManifest(t *testing.T) {
	b := list(0, 2)
	var spoilt []string
	for i := range b {
		turned := []byte(b)
		turned[i] ^= 4
		spoilt = append(spoilt, b[:i], string(turned))
	}
	spoilt = append(spoilt, b+"\x00", list(), list(2, 0), list(0, 0), list(0, api.MaxSeq+1), "none")
	for i, b := range spoilt {
		f := none([]file{lasting("manifest", b), whole(0, "a", "b"), whole(2, "c")}, name(0), name(2))
		if i%8 == 0 {
			wantFound(t, f)
		}
		d := f.begin(t)().d
		wantLog(t, openOn(t, d, 64), []int64{0}, nil, 0)
		wantFiles(t, d, f.after()...)
	}
}

// P6.1, F1: all are good

func TestOpenOfGoodOnes(t *testing.T) {
	wantFound(t, found{[]file{listed(0), whole(0)}, []call{makeLast(name(0))}, []int64{0}, nil, 0})
	wantFound(t, found{[]file{listed(0), whole(0, "a", "b")}, []call{makeLast(name(0))}, []int64{0}, row(0, "a", "b"), 2})
	wantFound(t, found{[]file{listed(0, 2, 5), whole(0, "a", "b"), whole(2, "c", "", "e"), whole(5, "f")}, []call{makeLast(name(5))}, []int64{0, 2, 5}, row(0, "a", "b", "c", "", "e", "f"), 6})
	// The last one may have no frame, the first one need not be 0.
	wantFound(t, found{[]file{listed(7, 9), whole(7, "a", "b"), whole(9)}, []call{makeLast(name(9))}, []int64{7, 9}, row(7, "a", "b"), 9})
	wantFound(t, found{[]file{listed(api.MaxSeq), whole(api.MaxSeq, "a")}, []call{makeLast(name(api.MaxSeq))}, []int64{api.MaxSeq}, row(api.MaxSeq, "a"), api.MaxSeq + 1})
	// A segment may be greater than the size.
	wantFound(t, found{[]file{listed(0, 1), whole(0, text(1800)), whole(1, text(1000))}, []call{makeLast(name(1))}, []int64{0, 1}, row(0, text(1800), text(1000)), 2})
}

func TestOpenOfAsManyAsMayBe(t *testing.T) {
	f := found{next: api.MaxSegments}
	for i := range int64(api.MaxSegments) {
		f.segments = append(f.segments, i)
		f.files = append(f.files, whole(i, "a"))
		f.frames = append(f.frames, row(i, "a")...)
	}
	f.files = append(f.files, listed(f.segments...))
	f.calls = []call{makeLast(name(39))}
	wantFound(t, f)
	// One whose file is spoilt ends the good ones.
	f.files[20].bytes, f.files[20].lasts = "spoilt", 6
	f.segments, f.frames, f.next = f.segments[:20], f.frames[:20], 20
	f.calls = swap(f.segments...)
	for i := range int64(20) {
		f.calls = append(f.calls, remove(name(20+i)))
	}
	f.calls = append(f.calls, makeLast(name(19)))
	wantFound(t, f)
}

// What lasts already, and what does not, is read alike; the Sync makes the last one last.
func TestOpenMakesTheLastOneLast(t *testing.T) {
	d := filled(t, 4000, listed(0, 1), whole(0, "a"), file{name(1), seg(1, "b", "c"), 12})
	wantLog(t, openOn(t, d, 64), []int64{0, 1}, row(0, "a", "b", "c"), 3)
	wantFiles(t, d, listed(0, 1), whole(0, "a"), whole(1, "b", "c"))
	d = filled(t, 4000, listed(0, 1), whole(0, "a"), file{name(1), seg(1, "b", "c"), 0})
	wantLog(t, openOn(t, d, 64), []int64{0, 1}, row(0, "a", "b", "c"), 3)
	wantFiles(t, d, listed(0, 1), whole(0, "a"), whole(1, "b", "c"))
}

// P6.1, F1: segments that are not good

// spoils is what a file of a segment of 2 may be, so that it is not good: it has no head, one that is spoilt, or another one's.
func spoils() []string {
	good := seg(2, "c", "d")
	spoilt := []string{seg(3, "c", "d"), seg(1, "c"), seg(0, "c"), seg(2+1<<8, "c"), summed([]byte("GOV1\x40\x00\x00\x01")), summed([]byte("GOV2\x00\x00\x00\x02")) + good[12:], "x" + good}
	for i := range 12 {
		turned := []byte(good)
		turned[i] ^= 1
		spoilt = append(spoilt, good[:i], string(turned))
	}
	return spoilt
}

func TestOpenWhereTheFirstOneIsNotGood(t *testing.T) {
	rest := []file{listed(2, 4, 5), whole(4, "e"), whole(5)}
	wantFound(t, none(rest, name(4), name(5)))
	for i, b := range spoils() {
		f := none(append(slices.Clone(rest), lasting(name(2), b)), name(2), name(4), name(5))
		if i < 10 {
			wantFound(t, f)
		}
		d := f.begin(t)().d
		wantLog(t, openOn(t, d, 64), []int64{0}, nil, 0)
		wantFiles(t, d, f.after()...)
	}
}

// Where the segment of 0 is the first one, and is not good, it is laid once more.
func TestOpenWhereTheSegmentOf0IsNotGood(t *testing.T) {
	wantFound(t, none([]file{listed(0, 2), whole(2, "c")}, name(2)))
	wantFound(t, none([]file{listed(0, 2), lasting(name(0), head(0)[:11]), whole(2, "c")}, name(0), name(2)))
	wantFound(t, none([]file{listed(0), lasting(name(0), seg(0, "a")[1:])}, name(0)))
}

func TestOpenWhereOneInTheMiddleIsNotGood(t *testing.T) {
	rest := []file{listed(0, 2, 4, 5), whole(0, "a", "b"), whole(4, "e"), whole(5)}
	f := found{rest, append(swap(0), remove(name(4)), remove(name(5)), makeLast(name(0))), []int64{0}, row(0, "a", "b"), 2}
	wantFound(t, f)
	f.calls = append(swap(0), remove(name(2)), remove(name(4)), remove(name(5)), makeLast(name(0)))
	for i, b := range spoils() {
		f.files = append(slices.Clone(rest), lasting(name(2), b))
		if i < 10 {
			wantFound(t, f)
		}
		d := f.begin(t)().d
		wantLog(t, openOn(t, d, 64), f.segments, f.frames, f.next)
		wantFiles(t, d, f.after()...)
	}
}

func TestOpenWhereTheLastOneIsNotGood(t *testing.T) {
	rest := []file{listed(0, 1, 2), whole(0, "a"), whole(1, "b")}
	f := found{rest, append(swap(0, 1), makeLast(name(1))), []int64{0, 1}, row(0, "a", "b"), 2}
	wantFound(t, f)
	f.calls = append(swap(0, 1), remove(name(2)), makeLast(name(1)))
	for _, b := range spoils()[:10] {
		f.files = append(slices.Clone(rest), lasting(name(2), b))
		wantFound(t, f)
	}
}

// One that does not go on from the one ahead is not good: where that has too few frames, too many, or none.
func TestOpenWhereOneDoesNotGoOn(t *testing.T) {
	for _, bodies := range [][]string{nil, {"a"}, {"a", "b", "c"}, {"a", "b", "c", "d", "e"}} {
		wantFound(t, found{
			[]file{listed(0, 2, 4), whole(0, bodies...), whole(2, "c", "d"), whole(4, "e")},
			append(swap(0), remove(name(2)), remove(name(4)), makeLast(name(0))),
			[]int64{0}, row(0, bodies...), int64(len(bodies)),
		})
	}
	wantFound(t, found{
		[]file{listed(3, 5, 6), whole(3, "a", "b"), whole(5), whole(6, "x")},
		append(swap(3, 5), remove(name(6)), makeLast(name(5))),
		[]int64{3, 5}, row(3, "a", "b"), 5,
	})
}

// P6.1, F1: a torn end

// torn is what may stand behind the good frames of a segment of 2, whose next number is 4.
func torn() []string {
	next := record(row(4, "next")[0])
	behind := []string{"\x00", "\xff\xff", text(100), record(row(5, "a gap")[0]), record(row(3, "once more")[0]), head(4), record(api.Frame{Type: 0, Seq: 4}), record(api.Frame{Type: 16, Seq: 4})}
	for _, end := range []int{1, 2, 3, 7, 10, len(next) - 1} {
		behind = append(behind, next[:end])
	}
	// A good frame behind one that is none is none.
	turned := []byte(next)
	turned[8] ^= 1
	return append(behind, string(turned), string(turned)+record(row(4, "x")[0]), next[:5]+record(row(5, "y")[0]))
}

func TestOpenOfATornEnd(t *testing.T) {
	for _, b := range torn() {
		wantFound(t, found{
			[]file{listed(0, 2), whole(0, "a", "b"), lasting(name(2), seg(2, "c", "d")+b)},
			append(mended(name(2), seg(2, "c", "d")), makeLast(name(2))),
			[]int64{0, 2}, row(0, "a", "b", "c", "d"), 4,
		})
	}
}

func TestOpenOfATornEndBehindTheHead(t *testing.T) {
	for _, b := range []string{"\x00", record(row(1, "a gap")[0]), text(50)} {
		wantFound(t, found{[]file{listed(0), lasting(name(0), head(0)+b)}, append(mended(name(0), head(0)), makeLast(name(0))), []int64{0}, nil, 0})
		wantFound(t, found{[]file{listed(8, 9), whole(8, "a"), lasting(name(9), head(9)+b)}, append(mended(name(9), head(9)), makeLast(name(9))), []int64{8, 9}, row(8, "a"), 9})
	}
}

// One with a torn end is the last good one, though the one behind would go on from it.
func TestOpenOfATornEndInOneAhead(t *testing.T) {
	for _, b := range torn() {
		wantFound(t, found{
			[]file{listed(0, 2, 4, 5), whole(0, "a", "b"), lasting(name(2), seg(2, "c", "d")+b), whole(4, "e"), whole(5, "f")},
			slices.Concat(swap(0, 2), mended(name(2), seg(2, "c", "d")), []call{remove(name(4)), remove(name(5)), makeLast(name(2))}),
			[]int64{0, 2}, row(0, "a", "b", "c", "d"), 4,
		})
	}
}

// Of two torn ends the first one counts.
func TestOpenOfTwoTornEnds(t *testing.T) {
	wantFound(t, found{
		[]file{listed(0, 2), lasting(name(0), seg(0, "a", "b")+"x"), lasting(name(2), seg(2, "c")+"y")},
		slices.Concat(swap(0), mended(name(0), seg(0, "a", "b")), []call{remove(name(2)), makeLast(name(0))}),
		[]int64{0}, row(0, "a", "b"), 2,
	})
}

// P6.1, F1: files that no list names

func TestOpenWithStrayFiles(t *testing.T) {
	good := []file{listed(3, 5), whole(3, "a", "b"), whole(5, "c")}
	strays := []file{whole(0, "x"), whole(4), whole(6, "d"), lasting(name(7), ""), lasting(name(api.MaxSeq), "none")}
	wantFound(t, found{
		append(slices.Clone(good), strays...),
		[]call{remove(name(0)), remove(name(4)), remove(name(6)), remove(name(7)), remove(name(api.MaxSeq)), makeLast(name(5))},
		[]int64{3, 5}, row(3, "a", "b", "c"), 6,
	})
}

// Files whose name is no segment's stay, whatever is done beside them.
func TestOpenWithOtherFiles(t *testing.T) {
	var others []file
	for i, name := range noSegments {
		others = append(others, lasting(name, seg(int64(i), "a")))
	}
	wantFound(t, none(others))
	wantFound(t, none(append(slices.Clone(others), whole(0)), name(0)))
	wantFound(t, found{append(slices.Clone(others), listed(0), whole(0, "a")), []call{makeLast(name(0))}, []int64{0}, row(0, "a"), 1})
	wantFound(t, found{
		append(slices.Clone(others), listed(0, 1, 2), whole(0, "a"), lasting(name(1), head(1)+"torn"), whole(2), whole(3)),
		slices.Concat(swap(0, 1), mended(name(1), head(1)), []call{remove(name(2)), remove(name(3)), makeLast(name(1))}),
		[]int64{0, 1}, row(0, "a"), 1,
	})
}

// P6.1, F1: fix.tmp and manifest.tmp, left from ahead

func TestOpenWithFilesLeft(t *testing.T) {
	good := []file{listed(0, 1), whole(0, "a"), whole(1, "b")}
	bad := []file{listed(0, 1, 3), whole(0, "a"), lasting(name(1), seg(1, "b")+"torn")}
	fixes := []file{lasting("fix.tmp", ""), lasting("fix.tmp", "x"), lasting("fix.tmp", seg(1, "b", "c")), lasting("fix.tmp", seg(1, "b"))}
	for i, list := range []file{lasting("manifest.tmp", ""), lasting("manifest.tmp", "x"), lasting("manifest.tmp", list(0)), lasting("manifest.tmp", list(0, 1))} {
		fix := fixes[i]
		for _, l := range [][]file{{fix}, {list}, {fix, list}} {
			var fixed, swapped, left []call
			for _, f := range l {
				left = append(left, remove(f.name))
				if f == fix {
					fixed = []call{remove("fix.tmp")}
				} else {
					swapped = []call{remove("manifest.tmp")}
				}
			}
			wantFound(t, found{slices.Concat(good, l), append([]call{makeLast(name(1))}, left...), []int64{0, 1}, row(0, "a", "b"), 2})
			calls := slices.Concat(swapped, swap(0, 1), fixed, mended(name(1), seg(1, "b")), []call{makeLast(name(1))})
			wantFound(t, found{slices.Concat(bad, l), calls, []int64{0, 1}, row(0, "a", "b"), 2})
			f := none(l)
			f.calls = slices.Concat(f.calls[:2], swapped, f.calls[2:], fixed)
			wantFound(t, f)
		}
	}
}

// P6.1, F1: without room, and of full files

// wantShort asks for an Open of a disk that is short of room, or of files: for its calls by each fuse, and for what is told behind a crash and another Open, as soon as the files of others are gone.
func wantShort(t *testing.T, begin func() scene, e api.Errno, f found) {
	t.Helper()
	wantCalls(t, begin, opens(t), e, f.calls...)
	for fuse := -1; fuse < len(f.calls)+1; fuse++ {
		for _, keep := range somewhat() {
			s := begin()
			s.d.Fuse(fuse)
			opens(t)(s)
			s.d.Crash(keep)
			l := openKept(t, s.d, 64)
			makeRoom(t, s.d)
			wantLog(t, l, f.segments, f.frames, f.next)
			wantFiles(t, s.d, f.after()...)
			wantLog(t, openOn(t, s.d, 64), f.segments, f.frames, f.next)
		}
	}
	if t.Failed() {
		t.Fatalf("of %v", look(begin().d))
	}
}

// of is a disk of so much room for these files, beside one of others.
func of(t *testing.T, room int, files ...file) func() scene {
	return func() scene { return scene{filled(t, room+100, append([]file{others(100)}, files...)...), nil} }
}

func TestOpenOfNoFilesWithoutRoom(t *testing.T) {
	for room := range 21 {
		f := none(nil)
		f.calls = []call{write(name(0), head(0)), remove(name(0))}
		if room >= 12 {
			f.calls = append(lay(0, 0)[:3:3], remove("manifest.tmp"), remove(name(0)))
		}
		wantShort(t, of(t, room), api.ErrFull, f)
	}
	wantShort(t, of(t, 21), api.OK, none(nil))
}

// One file is spoilt, and the one ahead of it is torn: the list has no room, then the good bytes have none.
func TestOpenWithoutRoom(t *testing.T) {
	f := found{
		files:    []file{listed(0, 2, 4), whole(0, "a", "b"), lasting(name(2), seg(2, "c", "d")+"torn"), lasting(name(4), "spoilt")},
		segments: []int64{0, 2}, frames: row(0, "a", "b", "c", "d"), next: 4,
	}
	size := 17 + 36 + 36 + 4 + 6
	for room := size; room < size+40; room++ {
		e := api.ErrFull
		switch {
		case room >= size-4+36:
			e, f.calls = api.OK, slices.Concat(swap(0, 2), mended(name(2), seg(2, "c", "d")), []call{remove(name(4)), makeLast(name(2))})
		case room >= size+13:
			f.calls = append(swap(0, 2), write("fix.tmp", seg(2, "c", "d")))
		default:
			f.calls = []call{write("manifest.tmp", list(0, 2)), remove("manifest.tmp")}
		}
		wantShort(t, of(t, room, f.files...), e, f)
	}
}

// Where nothing is to be written no room is asked for.
func TestOpenThatNeedsNoRoom(t *testing.T) {
	f := found{
		files:    []file{listed(0, 2), whole(0, "a", "b"), whole(2, "c"), whole(7), lasting("fix.tmp", "x")},
		calls:    []call{remove(name(7)), makeLast(name(2)), remove("fix.tmp")},
		segments: []int64{0, 2}, frames: row(0, "a", "b", "c"), next: 3,
	}
	wantShort(t, of(t, 13+36+24+12+1, f.files...), api.OK, f)
}

func TestOpenOfFullFiles(t *testing.T) {
	// less is as many files as there may be, but for some.
	less := func(some int, files ...file) func() scene {
		return func() scene {
			return scene{filled(t, 4000, append(crowd(api.MaxFiles-some-len(files)), files...)...), nil}
		}
	}
	f := none(nil)
	f.calls = []call{write(name(0), head(0)), remove(name(0))}
	wantShort(t, less(0), api.ErrFull, f)
	f.calls = append(lay(0, 0)[:3:3], remove("manifest.tmp"), remove(name(0)))
	wantShort(t, less(1), api.ErrFull, f)
	wantShort(t, less(2), api.OK, none(nil))
	// A stray file goes ahead of what is laid, and leaves its place to that.
	strays := []file{whole(7), whole(8)}
	wantShort(t, less(0, strays...), api.OK, none(strays, name(7), name(8)))
	files := []file{listed(0, 2), whole(0, "a")}
	wantShort(t, less(0, files...), api.ErrFull, found{files, []call{write("manifest.tmp", list(0)), remove("manifest.tmp")}, []int64{0}, row(0, "a"), 1})
	files = []file{listed(0), lasting(name(0), seg(0, "a")+"torn")}
	wantShort(t, less(0, files...), api.ErrFull, found{files, []call{write("fix.tmp", seg(0, "a"))}, []int64{0}, row(0, "a"), 1})
	files = []file{listed(0), whole(0, "a")}
	wantShort(t, less(0, files...), api.OK, found{files, []call{makeLast(name(0))}, []int64{0}, row(0, "a"), 1})
}
