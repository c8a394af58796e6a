package manifest_test

import (
	"fmt"
	"slices"
	"strconv"
	"testing"

	"governor/api"
	"governor/disk"
	"governor/manifest"
)

// file is all that can be seen of one.
type file struct {
	name  string
	bytes string
	lasts int
}

// String shows bytes that are no text, too.
func (f file) String() string { return fmt.Sprintf("%s %q of which %d last", f.name, f.bytes, f.lasts) }

// lasting is a list's bytes in the file of that name, all of which last; torn is its bytes up to there, of which none last.
func lasting(name string, l ...int64) file { return file{name, string(told(l...)), 5 + 4*len(l)} }

func torn(name string, end int, l ...int64) file { return file{name, string(told(l...)[:end]), 0} }

func look(d *disk.Disk) []file {
	var files []file
	for _, name := range d.List() {
		b, _ := d.Read(name)
		files = append(files, file{name, string(b), d.Synced(name)})
	}
	return files
}

func wantFiles(t *testing.T, d *disk.Disk, want ...file) {
	t.Helper()
	if got := look(d); !slices.Equal(got, want) {
		t.Errorf("files are %v, not %v", got, want)
	}
}

func wantErr(t *testing.T, what string, got api.Errno, want api.Errno) {
	t.Helper()
	if got != want {
		t.Errorf("%s: error %d, not %d", what, got, want)
	}
}

// filled is a disk of these files, in which so many bytes of each last.
func filled(t *testing.T, room int, files ...file) *disk.Disk {
	t.Helper()
	d := disk.New(room)
	for _, f := range files {
		wantErr(t, "write", d.Write(f.name, []byte(f.bytes[:f.lasts])), api.OK)
		if f.lasts > 0 {
			wantErr(t, "sync", d.Sync(f.name), api.OK)
		}
		wantErr(t, "write", d.Write(f.name, []byte(f.bytes[f.lasts:])), api.OK)
	}
	wantFiles(t, d, files...)
	return d
}

// crowd is n empty files.
func crowd(n int) []file {
	var files []file
	for i := range n {
		files = append(files, file{"f" + strconv.Itoa(i/10) + strconv.Itoa(i%10), "", 0})
	}
	return files
}

// many is more calls than any fuse here.
const many = 100

// left is how many calls the fuse still lets be done; many, where there is none. It burns them.
func left(d *disk.Disk) int {
	for calls := range many {
		if d.Delete("none") == api.ErrDead {
			return calls
		}
	}
	return many
}

func wantLeft(t *testing.T, d *disk.Disk, want int) {
	t.Helper()
	if got := left(d); got != want {
		t.Errorf("%d calls are left, not %d", got, want)
	}
}

func wantLoaded(t *testing.T, d *disk.Disk, want []int64) {
	t.Helper()
	if l, e := manifest.Load(d); e != api.OK || !slices.Equal(l, want) {
		t.Errorf("Load: %v, error %d, not %v, of %v", l, e, want, look(d))
	}
}

func wantNotLoaded(t *testing.T, d *disk.Disk, want api.Errno) {
	t.Helper()
	if l, e := manifest.Load(d); e != want || len(l) != 0 {
		t.Errorf("Load: %v, error %d, not %d, of %v", l, e, want, look(d))
	}
}

// wantThere asks that Load tells the list that stands first, or that there is none where that has no numbers.
func wantThere(t *testing.T, d *disk.Disk, l []int64) {
	t.Helper()
	if len(l) == 0 {
		wantNotLoaded(t, d, api.ErrNone)
	} else {
		wantLoaded(t, d, l)
	}
}

// wantSwap asks for that error, and for that list behind it, at once and behind each crash: nothing is kept of what does not last, a part, or all. The disk is made anew for each.
func wantSwap(t *testing.T, begin func() *disk.Disk, l []int64, e api.Errno, there []int64, files ...file) {
	t.Helper()
	d := begin()
	wantErr(t, "Swap", manifest.Swap(d, l), e)
	wantFiles(t, d, files...)
	wantThere(t, d, there)
	for keep := range 2 + len(told(l...)) {
		d := begin()
		wantErr(t, "Swap", manifest.Swap(d, l), e)
		d.Crash(slices.Repeat([]int{keep - 1}, api.MaxFiles))
		wantThere(t, d, there)
		if manifest.Swap(d, l) == api.OK {
			wantLoaded(t, d, l)
		}
	}
}

// P5.1, E2: Load

func TestLoadOfNoFile(t *testing.T) {
	wantNotLoaded(t, disk.New(0), api.ErrNone)
	wantNotLoaded(t, filled(t, 100, lasting("manifest.tmp", 1, 2)), api.ErrNone)
	wantNotLoaded(t, filled(t, 100, lasting("manifest-", 1, 2), lasting("manifest.", 1), lasting("s0000000000", 1)), api.ErrNone)
}

// Whether the bytes last, and what other files there are, is all one.
func TestLoad(t *testing.T) {
	for _, l := range someLists() {
		wantLoaded(t, filled(t, 1000, lasting("manifest", l...)), l)
		wantLoaded(t, filled(t, 1000, torn("manifest", 5+4*len(l), l...), lasting("manifest.tmp", 77)), l)
	}
}

func TestLoadOfBytesThatAreNone(t *testing.T) {
	for _, l := range wrongBytes() {
		wantNotLoaded(t, filled(t, 2000, lasting("manifest", l...)), api.ErrForm)
	}
	b := told(3, 5)
	for end := range b {
		wantNotLoaded(t, filled(t, 100, torn("manifest", end, 3, 5), lasting("manifest.tmp", 3, 5)), api.ErrForm)
		c := slices.Clone(b)
		c[end] ^= 1
		want := api.ErrSum
		if end == 0 {
			want = api.ErrForm
		}
		wantNotLoaded(t, filled(t, 100, file{"manifest", string(c), 0}), want)
		wantNotLoaded(t, filled(t, 100, file{"manifest", string(b) + string(c[:end+1]), 3}), api.ErrForm)
	}
}

// Load is no call: it is done while the machine stands still, burns no fuse and changes nothing.
func TestLoadIsNoCall(t *testing.T) {
	for fuse := range 3 {
		d := filled(t, 100, lasting("manifest", 3, 5), torn("manifest.tmp", 4, 9))
		d.Fuse(fuse)
		d.Fail(1)
		wantLoaded(t, d, []int64{3, 5})
		wantFiles(t, d, lasting("manifest", 3, 5), torn("manifest.tmp", 4, 9))
		if fuse > 0 {
			wantErr(t, "sync", d.Sync("manifest"), api.ErrIO)
		}
		wantLeft(t, d, max(fuse-1, 0))
	}
}

// P5.1, E2: Swap

func TestSwapWhereThereWasNoList(t *testing.T) {
	for _, l := range someLists() {
		d := disk.New(1000)
		wantErr(t, "Swap", manifest.Swap(d, l), api.OK)
		wantFiles(t, d, lasting("manifest", l...))
		wantLoaded(t, d, l)
	}
}

func TestSwapWhereThereWasOne(t *testing.T) {
	for _, l := range someLists() {
		for _, ahead := range [][]int64{{4}, {1, 2, 3}, l, row(5, 5, api.MaxSegments)} {
			d := filled(t, 1000, lasting("manifest", ahead...))
			wantErr(t, "Swap", manifest.Swap(d, l), api.OK)
			wantFiles(t, d, lasting("manifest", l...))
			wantLoaded(t, d, l)
		}
	}
}

func TestSwapsOneBehindTheOther(t *testing.T) {
	d := disk.New(1000)
	for range 3 {
		for _, l := range someLists() {
			wantErr(t, "Swap", manifest.Swap(d, l), api.OK)
			wantLoaded(t, d, l)
			d.Crash(nil)
			wantLoaded(t, d, l)
			wantFiles(t, d, lasting("manifest", l...))
		}
	}
}

// A file manifest that is no list, or does not last, is swapped as any.
func TestSwapOfWhatIsNoList(t *testing.T) {
	for _, f := range []file{{"manifest", "", 0}, {"manifest", "none", 2}, torn("manifest", 9, 7), lasting("manifest", 5, 3)} {
		d := filled(t, 100, f)
		wantErr(t, "Swap", manifest.Swap(d, []int64{8}), api.OK)
		wantFiles(t, d, lasting("manifest", 8))
	}
}

// All other files stay, and what lasts of them.
func TestSwapLeavesOtherFiles(t *testing.T) {
	others := []file{{"a", "abc", 2}, {"fix.tmp", "", 0}, {"manifest-", "x", 0}, {"manifest.tmp-", "y", 1}, {"s0000000000", "frames", 6}, {"tmp", "tmp", 0}}
	begin := func() *disk.Disk {
		d := filled(t, 200, others...)
		wantErr(t, "Swap", manifest.Swap(d, []int64{1}), api.OK)
		wantErr(t, "write", d.Write("manifest.tmp", []byte("left")), api.OK)
		return d
	}
	for fuse := range 6 {
		for fails := range 2 {
			d := failing(fails, fused(fuse, begin))()
			manifest.Swap(d, []int64{2, 3})
			if got := slices.DeleteFunc(look(d), isOwn); !slices.Equal(got, others) {
				t.Errorf("files are %v, not %v", got, others)
			}
		}
	}
}

func isOwn(f file) bool { return f.name == "manifest" || f.name == "manifest.tmp" }

// What is not right is told ahead of all else, and nothing is done: no call, no file.
func TestSwapOfWrongLists(t *testing.T) {
	for _, l := range wrongLists() {
		for fuse := range 6 {
			d := filled(t, 30, lasting("manifest", 3, 5), torn("manifest.tmp", 4, 9), file{"rest", "0123456789abc", 0})
			d.Fuse(fuse)
			d.Fail(1)
			wantErr(t, "Swap", manifest.Swap(d, l), api.ErrArg)
			wantFiles(t, d, lasting("manifest", 3, 5), torn("manifest.tmp", 4, 9), file{"rest", "0123456789abc", 0})
			if fuse > 0 {
				wantErr(t, "sync", d.Sync("rest"), api.ErrIO)
			}
			wantLeft(t, d, max(fuse-1, 0))
		}
	}
}

// P5.1, E2, and P5.3: Swap with each fuse

// stop is where a fuse has Swap end: what files there are, what is told, and which list is there.
type stop struct {
	files []file
	e     api.Errno
	there []int64
}

// wantStops asks for the stops by their fuses, from 0 on.
func wantStops(t *testing.T, begin func() *disk.Disk, l []int64, stops ...stop) {
	t.Helper()
	for fuse, s := range stops {
		wantSwap(t, fused(fuse, begin), l, s.e, s.there, s.files...)
	}
}

func TestSwapByFuseWhereThereWasNoList(t *testing.T) {
	l := []int64{4, 6}
	wantStops(t, func() *disk.Disk { return disk.New(50) }, l,
		stop{nil, api.ErrDead, nil},
		stop{[]file{torn("manifest.tmp", 13, l...)}, api.ErrDead, nil},
		stop{[]file{lasting("manifest.tmp", l...)}, api.ErrDead, nil},
		stop{[]file{lasting("manifest", l...)}, api.OK, l},
		stop{[]file{lasting("manifest", l...)}, api.OK, l})
}

func TestSwapByFuseWhereThereWasOne(t *testing.T) {
	l, ahead := []int64{4, 6}, []int64{1, 4, 5}
	was := lasting("manifest", ahead...)
	wantStops(t, func() *disk.Disk { return filled(t, 50, was) }, l,
		stop{[]file{was}, api.ErrDead, ahead},
		stop{[]file{was, torn("manifest.tmp", 13, l...)}, api.ErrDead, ahead},
		stop{[]file{was, lasting("manifest.tmp", l...)}, api.ErrDead, ahead},
		stop{[]file{lasting("manifest", l...)}, api.OK, l},
		stop{[]file{lasting("manifest", l...)}, api.OK, l})
}

// A file manifest.tmp that was left from ahead goes first, whatever it is.
func TestSwapByFuseWithAFileLeft(t *testing.T) {
	l, ahead := []int64{4, 6}, []int64{1, 4, 5}
	was := lasting("manifest", ahead...)
	for _, old := range []file{{"manifest.tmp", "", 0}, torn("manifest.tmp", 5, 8, 9), lasting("manifest.tmp", 8, 9), {"manifest.tmp", "none at all", 3}, lasting("manifest.tmp", l...)} {
		wantStops(t, func() *disk.Disk { return filled(t, 50, was, old) }, l,
			stop{[]file{was, old}, api.ErrDead, ahead},
			stop{[]file{was}, api.ErrDead, ahead},
			stop{[]file{was, torn("manifest.tmp", 13, l...)}, api.ErrDead, ahead},
			stop{[]file{was, lasting("manifest.tmp", l...)}, api.ErrDead, ahead},
			stop{[]file{lasting("manifest", l...)}, api.OK, l},
			stop{[]file{lasting("manifest", l...)}, api.OK, l})
	}
}

// fused is what begins with a fuse of so many calls.
func fused(fuse int, begin func() *disk.Disk) func() *disk.Disk {
	return func() *disk.Disk {
		d := begin()
		d.Fuse(fuse)
		return d
	}
}

// failing is what begins with so many Syncs that fail.
func failing(syncs int, begin func() *disk.Disk) func() *disk.Disk {
	return func() *disk.Disk {
		d := begin()
		d.Fail(syncs)
		return d
	}
}

// A Swap is three calls, and one more where a file manifest.tmp is left.
func TestHowManyCallsASwapIs(t *testing.T) {
	for _, ahead := range [][]file{nil, {lasting("manifest", 2)}} {
		d := fused(20, func() *disk.Disk { return filled(t, 100, ahead...) })()
		wantErr(t, "Swap", manifest.Swap(d, []int64{9}), api.OK)
		wantLeft(t, d, 17)
		d = fused(20, func() *disk.Disk { return filled(t, 100, append(slices.Clone(ahead), torn("manifest.tmp", 3, 7))...) })()
		wantErr(t, "Swap", manifest.Swap(d, []int64{9}), api.OK)
		wantLeft(t, d, 16)
	}
}

// P5.1, E2, and P5.3: Swap where a Sync fails

func TestSwapWhereSyncFails(t *testing.T) {
	l, ahead := []int64{4, 6}, []int64{1, 4, 5}
	was := lasting("manifest", ahead...)
	for _, old := range [][]file{{was}, {was, torn("manifest.tmp", 5, 8, 9)}, {was, lasting("manifest.tmp", 8, 9)}} {
		begin := func() *disk.Disk { return filled(t, 50, old...) }
		wantSwap(t, failing(1, begin), l, api.ErrIO, ahead, was)
		wantSwap(t, failing(5, begin), l, api.ErrIO, ahead, was)
		calls := 2 + len(old)
		d := failing(1, fused(20, begin))()
		wantErr(t, "Swap", manifest.Swap(d, l), api.ErrIO)
		wantLeft(t, d, 20-calls)
		// With one call fewer the last Delete is not done: what the Sync said is told all the same.
		wantSwap(t, failing(1, fused(calls-1, begin)), l, api.ErrIO, ahead, was, torn("manifest.tmp", 13, l...))
		wantSwap(t, failing(1, fused(calls, begin)), l, api.ErrIO, ahead, was)
		wantSwap(t, failing(1, fused(calls-2, begin)), l, api.ErrDead, ahead, was, torn("manifest.tmp", 13, l...))
	}
	wantSwap(t, failing(1, func() *disk.Disk { return disk.New(50) }), l, api.ErrIO, nil)
}

// Each Swap asks one Sync: of two that fail the third Swap knows nothing.
func TestSwapAsksOneSync(t *testing.T) {
	d := filled(t, 50, lasting("manifest", 1))
	d.Fail(2)
	for _, want := range []api.Errno{api.ErrIO, api.ErrIO, api.OK, api.OK} {
		wantErr(t, "Swap", manifest.Swap(d, []int64{2, 3}), want)
	}
	wantFiles(t, d, lasting("manifest", 2, 3))
}

// P5.1, E2, and P5.3: Swap without room

func TestSwapWithoutRoom(t *testing.T) {
	l, ahead := []int64{4, 6}, []int64{1, 4, 5}
	was := lasting("manifest", ahead...)
	for room := 17; room < 17+13; room++ {
		begin := func() *disk.Disk { return filled(t, room, was) }
		wantSwap(t, begin, l, api.ErrFull, ahead, was)
		wantSwap(t, fused(0, begin), l, api.ErrDead, ahead, was)
		wantSwap(t, fused(1, begin), l, api.ErrFull, ahead, was)
		// The Delete behind is a call, though there is no such file.
		d := fused(20, begin)()
		wantErr(t, "Swap", manifest.Swap(d, l), api.ErrFull)
		wantLeft(t, d, 18)
	}
	wantSwap(t, func() *disk.Disk { return filled(t, 17+13, was) }, l, api.OK, l, lasting("manifest", l...))
	for room := range 13 {
		wantSwap(t, func() *disk.Disk { return disk.New(room) }, l, api.ErrFull, nil)
	}
	wantSwap(t, func() *disk.Disk { return disk.New(13) }, l, api.OK, l, lasting("manifest", l...))
}

// What was left from ahead gives its room; where that is too little it is gone all the same.
func TestSwapWithoutRoomWithAFileLeft(t *testing.T) {
	l, ahead := []int64{4, 6}, []int64{1, 4, 5}
	was := lasting("manifest", ahead...)
	for size := range 20 {
		old := file{"manifest.tmp", "01234567890123456789"[:size], size / 2}
		begin := func() *disk.Disk { return filled(t, 17+size, was, old) }
		if size >= 13 {
			wantSwap(t, begin, l, api.OK, l, lasting("manifest", l...))
			continue
		}
		wantSwap(t, begin, l, api.ErrFull, ahead, was)
		wantSwap(t, fused(0, begin), l, api.ErrDead, ahead, was, old)
		wantSwap(t, fused(1, begin), l, api.ErrDead, ahead, was)
		wantSwap(t, fused(2, begin), l, api.ErrFull, ahead, was)
		d := fused(20, begin)()
		wantErr(t, "Swap", manifest.Swap(d, l), api.ErrFull)
		wantLeft(t, d, 17)
	}
}

// A Sync that would fail is not asked where the Write had no room.
func TestSwapWithoutRoomAsksNoSync(t *testing.T) {
	d := filled(t, 20, lasting("manifest", 1))
	d.Fail(1)
	wantErr(t, "Swap", manifest.Swap(d, []int64{2, 3}), api.ErrFull)
	wantErr(t, "sync", d.Sync("manifest"), api.ErrIO)
}

// P5.1, E2, and P5.3: Swap of full files

func TestSwapOfFullFiles(t *testing.T) {
	l, was := []int64{4, 6}, lasting("manifest", 1, 4, 5)
	full := crowd(api.MaxFiles)
	begin := func() *disk.Disk { return filled(t, 50, full...) }
	wantSwap(t, begin, l, api.ErrFull, nil, full...)
	d := fused(20, begin)()
	wantErr(t, "Swap", manifest.Swap(d, l), api.ErrFull)
	wantLeft(t, d, 18)
	full = append(crowd(api.MaxFiles-1), was)
	wantSwap(t, begin, l, api.ErrFull, []int64{1, 4, 5}, full...)
	wantSwap(t, fused(1, begin), l, api.ErrFull, []int64{1, 4, 5}, full...)
}

// One file fewer is enough, and so is one that is left from ahead.
func TestSwapOfFilesThatAreNotFull(t *testing.T) {
	l, was, old := []int64{4, 6}, lasting("manifest", 1, 4, 5), torn("manifest.tmp", 2, 9)
	for _, n := range []int{api.MaxFiles - 2, api.MaxFiles - 1} {
		want := append(crowd(n), lasting("manifest", l...))
		wantSwap(t, func() *disk.Disk { return filled(t, 50, crowd(n)...) }, l, api.OK, l, want...)
		wantSwap(t, func() *disk.Disk { return filled(t, 50, append(crowd(n), old)...) }, l, api.OK, l, want...)
	}
	want := append(crowd(api.MaxFiles-2), lasting("manifest", l...))
	wantSwap(t, func() *disk.Disk { return filled(t, 50, append(crowd(api.MaxFiles-2), was)...) }, l, api.OK, l, want...)
	wantSwap(t, func() *disk.Disk { return filled(t, 50, append(crowd(api.MaxFiles-2), was, old)...) }, l, api.OK, l, want...)
}
