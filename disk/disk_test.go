package disk_test

import (
	"bytes"
	"math"
	"runtime"
	"slices"
	"strconv"
	"strings"
	"testing"

	"governor/api"
	"governor/disk"
)

// row is all that can be seen of a file.
type row struct {
	name  string
	bytes string
	lasts int
}

func look(d *disk.Disk) []row {
	var rows []row
	for _, name := range d.List() {
		b, _ := d.Read(name)
		rows = append(rows, row{name, string(b), d.Synced(name)})
	}
	return rows
}

func wantRows(t *testing.T, d *disk.Disk, want ...row) {
	t.Helper()
	if got := look(d); !slices.Equal(got, want) {
		t.Errorf("files are %v, not %v", got, want)
	}
	used := 0
	for _, r := range want {
		used += len(r.bytes)
	}
	if d.Used() != used {
		t.Errorf("used is %d, not %d", d.Used(), used)
	}
}

func wantErr(t *testing.T, what string, got api.Errno, want api.Errno) {
	t.Helper()
	if got != want {
		t.Errorf("%s: %d, not %d", what, got, want)
	}
}

// filled is a disk of these files, in which so many bytes of each last.
func filled(t *testing.T, room int, rows ...row) *disk.Disk {
	t.Helper()
	d := disk.New(room)
	if d == nil {
		t.Fatalf("no disk of %d", room)
	}
	for _, r := range rows {
		if r.lasts > 0 {
			wantErr(t, "write", d.Write(r.name, []byte(r.bytes[:r.lasts])), api.OK)
			wantErr(t, "sync", d.Sync(r.name), api.OK)
		}
		wantErr(t, "write", d.Write(r.name, []byte(r.bytes[r.lasts:])), api.OK)
	}
	wantRows(t, d, rows...)
	return d
}

// crowd is one of MaxFiles empty files, f00 and so on.
func crowd(t *testing.T, room int) *disk.Disk {
	t.Helper()
	var rows []row
	for i := range api.MaxFiles {
		rows = append(rows, row{"f" + strconv.Itoa(i/10) + strconv.Itoa(i%10), "", 0})
	}
	return filled(t, room, rows...)
}

// P1.1, A1

func TestNewByRoom(t *testing.T) {
	for _, room := range []int{math.MinInt, -1, api.MaxDisk + 1, math.MaxInt} {
		if disk.New(room) != nil {
			t.Error("there is one of", room)
		}
	}
	for _, room := range []int{0, 1, api.MaxDisk - 1, api.MaxDisk} {
		d := disk.New(room)
		if d == nil {
			t.Fatal("there is none of", room)
		}
		wantRows(t, d)
		wantErr(t, "all the room", d.Write("a", make([]byte, room)), api.OK)
		wantErr(t, "one byte more", d.Write("a", []byte{1}), api.ErrFull)
		wantErr(t, "no byte more", d.Write("a", nil), api.OK)
		if d.Used() != room {
			t.Error("used is", d.Used(), "of", room)
		}
	}
}

func TestNewHasNoFuseAndNoFailure(t *testing.T) {
	d := disk.New(10)
	wantErr(t, "write", d.Write("a", []byte("x")), api.OK)
	for range 1000 {
		wantErr(t, "sync", d.Sync("a"), api.OK)
	}
}

func TestDisksAreTheirOwn(t *testing.T) {
	d := filled(t, 10, row{"a", "x", 1})
	e := filled(t, 10, row{"a", "yy", 0})
	d.Fuse(0)
	wantErr(t, "the other one", e.Sync("a"), api.OK)
	wantRows(t, d, row{"a", "x", 1})
	wantRows(t, e, row{"a", "yy", 2})
}

// P1.1, A2: names

func TestNamesByBytes(t *testing.T) {
	const may = "abcdefghijklmnopqrstuvwxyz0123456789.-"
	for c := range 256 {
		one := string([]byte{byte(c)})
		want := api.ErrArg
		if strings.Contains(may, one) {
			want = api.OK
		}
		for _, name := range []string{one, one + "a", "a" + one, "a" + one + "b"} {
			d := filled(t, 10, row{"from", "x", 0})
			wantErr(t, "write "+strconv.Quote(name), d.Write(name, []byte("y")), want)
			e := filled(t, 10, row{"from", "x", 0})
			wantErr(t, "rename "+strconv.Quote(name), e.Rename("from", name), want)
			if want == api.OK {
				wantRows(t, e, row{name, "x", 0})
				continue
			}
			wantRows(t, d, row{"from", "x", 0})
			wantRows(t, e, row{"from", "x", 0})
		}
	}
}

func TestNamesByLength(t *testing.T) {
	for n := range 40 {
		name := strings.Repeat("z", n)
		want := api.ErrArg
		if n >= 1 && n <= 16 {
			want = api.OK
		}
		d := filled(t, 10, row{"a", "x", 0})
		wantErr(t, "write of "+strconv.Itoa(n), d.Write(name, nil), want)
		e := filled(t, 10, row{"a", "x", 0})
		wantErr(t, "rename to "+strconv.Itoa(n), e.Rename("a", name), want)
	}
	wantErr(t, "runes", disk.New(10).Write("é", nil), api.ErrArg)
	wantErr(t, "no utf-8", disk.New(10).Write("a\xff", nil), api.ErrArg)
}

func TestWhatIsNoNameIsNoFile(t *testing.T) {
	d := filled(t, 10, row{"a", "x", 0})
	for _, name := range []string{"", "A", "a b", "a\x00", strings.Repeat("a", 17)} {
		wantErr(t, "sync", d.Sync(name), api.ErrNone)
		wantErr(t, "delete", d.Delete(name), api.ErrNone)
		wantErr(t, "rename", d.Rename(name, "b"), api.ErrNone)
		if b, is := d.Read(name); is || len(b) != 0 || d.Synced(name) != 0 {
			t.Errorf("%q is there", name)
		}
	}
	wantRows(t, d, row{"a", "x", 0})
}

// P1.1, A2: Write

func TestWriteStandsBehind(t *testing.T) {
	d := disk.New(100)
	wantErr(t, "first", d.Write("b", []byte("one")), api.OK)
	wantErr(t, "other", d.Write("a", nil), api.OK)
	wantErr(t, "second", d.Write("b", []byte{0, 255}), api.OK)
	wantErr(t, "nothing", d.Write("b", nil), api.OK)
	wantErr(t, "third", d.Write("b", []byte("three")), api.OK)
	wantRows(t, d, row{"a", "", 0}, row{"b", "one\x00\xffthree", 0})
}

func TestWriteIsFullByRoomOfAllFiles(t *testing.T) {
	d := filled(t, 10, row{"a", "1234", 2}, row{"b", "123", 0})
	wantErr(t, "a file's bytes more", d.Write("a", []byte("1234")), api.ErrFull)
	wantErr(t, "a new file's bytes", d.Write("c", []byte("1234")), api.ErrFull)
	wantErr(t, "far more", d.Write("b", make([]byte, api.MaxDisk)), api.ErrFull)
	wantRows(t, d, row{"a", "1234", 2}, row{"b", "123", 0})
	wantErr(t, "what is left", d.Write("c", []byte("123")), api.OK)
	wantErr(t, "one more", d.Write("b", []byte("1")), api.ErrFull)
	wantErr(t, "an empty one", d.Write("d", nil), api.OK)
	wantErr(t, "delete", d.Delete("a"), api.OK)
	wantErr(t, "room again", d.Write("b", []byte("4567")), api.OK)
	wantRows(t, d, row{"b", "1234567", 0}, row{"c", "123", 0}, row{"d", "", 0})
}

func TestWriteIsFullByFiles(t *testing.T) {
	d := crowd(t, 10)
	before := look(d)
	wantErr(t, "one file more", d.Write("g", []byte("x")), api.ErrFull)
	wantErr(t, "an empty one more", d.Write("g", nil), api.ErrFull)
	if !slices.Equal(look(d), before) {
		t.Error("files changed")
	}
	wantErr(t, "one of them", d.Write("f63", []byte("x")), api.OK)
	wantErr(t, "another name", d.Rename("f00", "g"), api.OK)
	wantErr(t, "as many still", d.Write("h", nil), api.ErrFull)
	wantErr(t, "one another's name", d.Rename("g", "f01"), api.OK)
	wantErr(t, "one fewer", d.Write("h", nil), api.OK)
	wantErr(t, "as many again", d.Write("i", nil), api.ErrFull)
	wantErr(t, "delete", d.Delete("f02"), api.OK)
	wantErr(t, "one fewer again", d.Write("i", nil), api.OK)
	if len(d.List()) != api.MaxFiles {
		t.Error(len(d.List()))
	}
}

// P2: the error that the call's own words name first.
func TestWriteNamesNoNameAheadOfFull(t *testing.T) {
	d := filled(t, 4, row{"a", "1234", 2})
	wantErr(t, "no name, no room", d.Write("A", []byte("5")), api.ErrArg)
	wantErr(t, "no name, far too much", d.Write("", make([]byte, api.MaxDisk+1)), api.ErrArg)
	wantRows(t, d, row{"a", "1234", 2})
	e := crowd(t, 0)
	wantErr(t, "no name, no file more", e.Write("a b", nil), api.ErrArg)
	wantErr(t, "no name, neither", e.Write("a b", []byte("x")), api.ErrArg)
	if len(e.List()) != api.MaxFiles {
		t.Error(e.List())
	}
}

// P1.1, A2: Sync

func TestSyncMakesAllBytesLast(t *testing.T) {
	d := filled(t, 20, row{"a", "abc", 0}, row{"b", "de", 0})
	wantErr(t, "sync", d.Sync("a"), api.OK)
	wantRows(t, d, row{"a", "abc", 3}, row{"b", "de", 0})
	wantErr(t, "write", d.Write("a", []byte("xy")), api.OK)
	wantRows(t, d, row{"a", "abcxy", 3}, row{"b", "de", 0})
	wantErr(t, "sync again", d.Sync("a"), api.OK)
	wantErr(t, "sync of one that is not there", d.Sync("c"), api.ErrNone)
	wantRows(t, d, row{"a", "abcxy", 5}, row{"b", "de", 0})
}

func TestSyncsFail(t *testing.T) {
	d := filled(t, 20, row{"a", "abc", 1}, row{"b", "de", 0})
	d.Fail(2)
	wantErr(t, "first", d.Sync("a"), api.ErrIO)
	wantErr(t, "one that is not there, which takes none", d.Sync("c"), api.ErrNone)
	wantErr(t, "calls that are no Sync", d.Write("b", nil), api.OK)
	wantErr(t, "second", d.Sync("b"), api.ErrIO)
	wantRows(t, d, row{"a", "abc", 1}, row{"b", "de", 0})
	wantErr(t, "third", d.Sync("a"), api.OK)
	wantRows(t, d, row{"a", "abc", 3}, row{"b", "de", 0})
}

func TestFailSaysHowMany(t *testing.T) {
	for _, c := range []struct{ first, then, want int }{{0, 0, 0}, {0, -1, 0}, {3, math.MinInt, 0}, {3, 0, 0}, {3, 1, 1}, {1, 3, 3}, {-5, 2, 2}} {
		d := filled(t, 20, row{"a", "abc", 1})
		d.Fail(c.first)
		d.Fail(c.then)
		for range c.want {
			wantErr(t, "fails", d.Sync("a"), api.ErrIO)
		}
		wantRows(t, d, row{"a", "abc", 1})
		wantErr(t, "fails no more", d.Sync("a"), api.OK)
	}
	d := filled(t, 20, row{"a", "abc", 1})
	d.Fail(math.MaxInt)
	for range 1000 {
		wantErr(t, "fails", d.Sync("a"), api.ErrIO)
	}
}

// P1.1, A2: Rename

func TestRename(t *testing.T) {
	d := filled(t, 20, row{"a", "abc", 2}, row{"b", "de", 1}, row{"c", "f", 0})
	wantErr(t, "to a name that is free", d.Rename("a", "z"), api.OK)
	wantRows(t, d, row{"b", "de", 1}, row{"c", "f", 0}, row{"z", "abc", 2})
	wantErr(t, "to another one's", d.Rename("z", "c"), api.OK)
	wantRows(t, d, row{"b", "de", 1}, row{"c", "abc", 2})
	wantErr(t, "to its own", d.Rename("b", "b"), api.OK)
	wantRows(t, d, row{"b", "de", 1}, row{"c", "abc", 2})
	wantErr(t, "from none", d.Rename("z", "b"), api.ErrNone)
	wantErr(t, "from none, to its own", d.Rename("z", "z"), api.ErrNone)
	wantErr(t, "to no name", d.Rename("b", "B"), api.ErrArg)
	wantErr(t, "from none, to no name", d.Rename("z", ""), api.ErrArg)
	wantRows(t, d, row{"b", "de", 1}, row{"c", "abc", 2})
	wantErr(t, "what goes on", d.Write("c", []byte("x")), api.OK)
	wantErr(t, "what is new", d.Write("z", []byte("y")), api.OK)
	wantRows(t, d, row{"b", "de", 1}, row{"c", "abcx", 2}, row{"z", "y", 0})
}

func TestRenameAmongMaxFiles(t *testing.T) {
	d := crowd(t, 0)
	wantErr(t, "another name", d.Rename("f00", "a"), api.OK)
	wantErr(t, "its own", d.Rename("a", "a"), api.OK)
	if l := d.List(); len(l) != api.MaxFiles || l[0] != "a" || l[1] != "f01" {
		t.Error(l)
	}
}

// P1.1, A2: Delete

func TestDelete(t *testing.T) {
	d := filled(t, 5, row{"a", "abc", 3}, row{"b", "de", 1})
	wantErr(t, "none", d.Delete("c"), api.ErrNone)
	wantRows(t, d, row{"a", "abc", 3}, row{"b", "de", 1})
	wantErr(t, "one", d.Delete("a"), api.OK)
	wantErr(t, "again", d.Delete("a"), api.ErrNone)
	wantErr(t, "sync of it", d.Sync("a"), api.ErrNone)
	wantRows(t, d, row{"b", "de", 1})
	wantErr(t, "anew", d.Write("a", []byte("x")), api.OK)
	wantRows(t, d, row{"a", "x", 0}, row{"b", "de", 1})
}

// P1.1, A3

func TestReadTellsWhetherThereIsOne(t *testing.T) {
	d := filled(t, 5, row{"a", "", 0}, row{"b", "de", 1})
	if b, is := d.Read("a"); !is || len(b) != 0 {
		t.Error(b, is)
	}
	if b, is := d.Read("b"); !is || string(b) != "de" {
		t.Error(b, is)
	}
	if b, is := d.Read("c"); is || len(b) != 0 {
		t.Error(b, is)
	}
	if d.Synced("a") != 0 || d.Synced("b") != 1 || d.Synced("c") != 0 {
		t.Error("synced")
	}
}

func TestListGoesByBytes(t *testing.T) {
	want := []string{"-", "-a", ".", "0", "00", "1", "10", "9", "a", "a-", "a.", "a0", "aa", "b", "z"}
	d := disk.New(0)
	for i := range want {
		wantErr(t, "write", d.Write(want[i*7%len(want)], nil), api.OK)
	}
	if !slices.Equal(d.List(), want) {
		t.Error(d.List())
	}
}

// P1.1, A4: Fuse

func TestFuseOfNone(t *testing.T) {
	d := filled(t, 5, row{"a", "abc", 1}, row{"b", "de", 0})
	d.Fail(1)
	d.Fuse(0)
	for range 3 {
		wantErr(t, "write", d.Write("a", nil), api.ErrDead)
		wantErr(t, "write that may not be", d.Write("A", make([]byte, 9)), api.ErrDead)
		wantErr(t, "sync", d.Sync("a"), api.ErrDead)
		wantErr(t, "sync of none", d.Sync("c"), api.ErrDead)
		wantErr(t, "rename", d.Rename("a", "b"), api.ErrDead)
		wantErr(t, "rename that may not be", d.Rename("c", "C"), api.ErrDead)
		wantErr(t, "delete", d.Delete("a"), api.ErrDead)
		wantErr(t, "delete of none", d.Delete("c"), api.ErrDead)
	}
	wantRows(t, d, row{"a", "abc", 1}, row{"b", "de", 0})
	d.Fuse(-1)
	wantErr(t, "the Sync that fails still", d.Sync("a"), api.ErrIO)
	wantErr(t, "and then none", d.Sync("a"), api.OK)
}

// Each call burns the fuse, also where it is an error; nothing else does.
func TestFuseBurnsByCalls(t *testing.T) {
	for _, c := range []struct {
		what string
		call func(d *disk.Disk) api.Errno
		want api.Errno
	}{
		{"write", func(d *disk.Disk) api.Errno { return d.Write("a", nil) }, api.OK},
		{"write of no name", func(d *disk.Disk) api.Errno { return d.Write("A", nil) }, api.ErrArg},
		{"write that is full", func(d *disk.Disk) api.Errno { return d.Write("a", make([]byte, 10)) }, api.ErrFull},
		{"sync that fails", func(d *disk.Disk) api.Errno { return d.Sync("a") }, api.ErrIO},
		{"sync", func(d *disk.Disk) api.Errno { d.Fail(0); return d.Sync("a") }, api.OK},
		{"sync of none", func(d *disk.Disk) api.Errno { return d.Sync("c") }, api.ErrNone},
		{"rename", func(d *disk.Disk) api.Errno { return d.Rename("a", "d") }, api.OK},
		{"rename to no name", func(d *disk.Disk) api.Errno { return d.Rename("a", "A") }, api.ErrArg},
		{"rename of none", func(d *disk.Disk) api.Errno { return d.Rename("c", "d") }, api.ErrNone},
		{"delete", func(d *disk.Disk) api.Errno { return d.Delete("a") }, api.OK},
		{"delete of none", func(d *disk.Disk) api.Errno { return d.Delete("c") }, api.ErrNone},
	} {
		d := filled(t, 5, row{"a", "abc", 1}, row{"b", "de", 0})
		d.Fail(1)
		d.Fuse(2)
		wantErr(t, c.what, c.call(d), c.want)
		look(d)
		d.Used()
		wantErr(t, c.what+", then the last one", d.Write("b", nil), api.OK)
		wantErr(t, c.what+", then no more", d.Write("b", nil), api.ErrDead)
		wantErr(t, c.what+", then no more", d.Write("b", nil), api.ErrDead)
	}
}

func TestFuseSaysHowMany(t *testing.T) {
	for _, c := range []struct{ first, then, want int }{{-1, 0, 0}, {-1, 1, 1}, {0, 1, 1}, {5, 2, 2}, {2, 5, 5}, {-1, 100, 100}} {
		d := disk.New(0)
		d.Fuse(c.first)
		d.Fuse(c.then)
		for range c.want {
			wantErr(t, "a call", d.Write("a", nil), api.OK)
		}
		wantErr(t, "one more", d.Write("a", nil), api.ErrDead)
	}
	for _, calls := range []int{-1, -2, math.MinInt, math.MaxInt} {
		d := disk.New(0)
		d.Fuse(0)
		d.Fuse(calls)
		for range 1000 {
			wantErr(t, "a call", d.Write("a", nil), api.OK)
		}
	}
}

// P1.1, A4: Crash

func TestCrashKeeps(t *testing.T) {
	for _, c := range []struct {
		keep []int
		want [3]string
	}{
		{nil, [3]string{"ab", "", "ghi"}},
		{[]int{}, [3]string{"ab", "", "ghi"}},
		{[]int{0, 0, 0}, [3]string{"ab", "", "ghi"}},
		{[]int{1}, [3]string{"abc", "", "ghi"}},
		{[]int{0, 1}, [3]string{"ab", "e", "ghi"}},
		{[]int{-1, 2, -3}, [3]string{"ab", "ef", "ghi"}},
		{[]int{2, 1, 1}, [3]string{"abcd", "e", "ghi"}},
		{[]int{3, 2, 9}, [3]string{"abcd", "ef", "ghi"}},
		{[]int{math.MaxInt, math.MaxInt, math.MaxInt}, [3]string{"abcd", "ef", "ghi"}},
		{[]int{math.MinInt, math.MinInt, math.MinInt}, [3]string{"ab", "", "ghi"}},
		{[]int{0, 0, 0, 9, 9}, [3]string{"ab", "", "ghi"}},
	} {
		d := filled(t, 20, row{"n1", "abcd", 2}, row{"n2", "ef", 0}, row{"n3", "ghi", 3})
		d.Crash(c.keep)
		wantRows(t, d, row{"n1", c.want[0], len(c.want[0])}, row{"n2", c.want[1], len(c.want[1])}, row{"n3", c.want[2], len(c.want[2])})
	}
}

func TestCrashGoesByTheOrderOfNames(t *testing.T) {
	d := disk.New(20)
	for _, name := range []string{"z", "a", "-", "m"} {
		wantErr(t, "write", d.Write(name, []byte("12345")), api.OK)
	}
	d.Crash([]int{1, 2, 3, 4})
	wantRows(t, d, row{"-", "1", 1}, row{"a", "12", 2}, row{"m", "123", 3}, row{"z", "1234", 4})
}

func TestCrashBeginsAnew(t *testing.T) {
	d := filled(t, 20, row{"a", "abc", 1})
	d.Fail(3)
	d.Fuse(0)
	d.Crash([]int{1})
	wantRows(t, d, row{"a", "ab", 2})
	wantErr(t, "write", d.Write("a", []byte("xy")), api.OK)
	for range 100 {
		wantErr(t, "sync", d.Sync("a"), api.OK)
	}
	wantRows(t, d, row{"a", "abxy", 4})
	d.Fuse(7)
	d.Crash(nil)
	for range 8 {
		wantErr(t, "sync", d.Sync("a"), api.OK)
	}
	wantRows(t, d, row{"a", "abxy", 4})
}

func TestCrashOfNothing(t *testing.T) {
	d := disk.New(20)
	d.Fuse(0)
	d.Crash([]int{1, 2})
	wantRows(t, d)
	wantErr(t, "write", d.Write("a", nil), api.OK)
}

func TestCrashFreesRoom(t *testing.T) {
	d := filled(t, 4, row{"a", "abcd", 2})
	wantErr(t, "full", d.Write("a", []byte("x")), api.ErrFull)
	d.Crash([]int{1})
	wantErr(t, "room", d.Write("a", []byte("x")), api.OK)
	wantErr(t, "full again", d.Write("a", []byte("x")), api.ErrFull)
	wantRows(t, d, row{"a", "abcx", 3})
}

// P3: what is handed in is not changed and not kept, what comes out is new memory.

func TestWriteKeepsNothing(t *testing.T) {
	d := disk.New(20)
	back := []byte("abcdef")
	for range 2 {
		wantErr(t, "write", d.Write("a", back[:3]), api.OK)
	}
	if string(back) != "abcdef" {
		t.Errorf("it is %q now", back)
	}
	copy(back, "xxxxxx")
	wantRows(t, d, row{"a", "abcabc", 0})
}

// namedFrom is one whose names are cut out of a text of so many bytes.
func namedFrom(t *testing.T, size int) *disk.Disk {
	text := strings.Repeat("a", size)
	d := filled(t, 20, row{"b", "x", 0})
	wantErr(t, "write", d.Write(text[:2], []byte("y")), api.OK)
	wantErr(t, "sync", d.Sync(text[:2]), api.OK)
	wantErr(t, "rename", d.Rename("b", text[:3]), api.OK)
	return d
}

func TestNamesAreNotKept(t *testing.T) {
	const size = 32 << 20
	d := namedFrom(t, size)
	runtime.GC()
	var m runtime.MemStats
	runtime.ReadMemStats(&m)
	if m.HeapAlloc > size/2 {
		t.Error("the text is kept:", m.HeapAlloc)
	}
	wantRows(t, d, row{"aa", "y", 1}, row{"aaa", "x", 0})
}

func TestReadTellsNewMemory(t *testing.T) {
	d := filled(t, 20, row{"a", "abcdef", 6})
	b, _ := d.Read("a")
	d.Crash(nil)
	wantErr(t, "write", d.Write("a", []byte("g")), api.OK)
	c, _ := d.Read("a")
	all := b[:cap(b)]
	for i := range all {
		all[i] = 'x'
	}
	if again, _ := d.Read("a"); string(again) != "abcdefg" || string(c) != "abcdefg" {
		t.Errorf("%q, %q", again, c)
	}
	wantErr(t, "write", d.Write("a", []byte("h")), api.OK)
	if string(c) != "abcdefg" || !bytes.Equal(b, []byte("xxxxxx")) {
		t.Errorf("%q, %q", b, c)
	}
}

func TestListTellsNewMemory(t *testing.T) {
	d := filled(t, 20, row{"a", "", 0}, row{"b", "x", 1})
	l := d.List()
	all := l[:cap(l)]
	for i := range all {
		all[i] = "x"
	}
	wantRows(t, d, row{"a", "", 0}, row{"b", "x", 1})
}

func TestCrashKeepsNoList(t *testing.T) {
	d := filled(t, 20, row{"a", "abc", 0}, row{"b", "def", 0})
	keep := []int{-1, 9}
	d.Crash(keep)
	if !slices.Equal(keep, []int{-1, 9}) {
		t.Error(keep)
	}
}

// A file that was read ahead of a Crash is not turned by what is written over what the Crash cut.
func TestWriteBehindACrash(t *testing.T) {
	d := filled(t, 20, row{"a", "abcdef", 3})
	before, _ := d.Read("a")
	d.Crash(nil)
	wantErr(t, "write", d.Write("a", []byte("xyz")), api.OK)
	wantRows(t, d, row{"a", "abcxyz", 3})
	if string(before) != "abcdef" {
		t.Errorf("%q", before)
	}
}
