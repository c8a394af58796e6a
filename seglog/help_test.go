package seglog_test

import (
	"encoding/binary"
	"fmt"
	"hash/crc32"
	"slices"
	"strconv"
	"strings"
	"testing"

	"governor/api"
	"governor/disk"
	"governor/seglog"
)

// file is all that can be seen of one.
type file struct {
	name  string
	bytes string
	lasts int
}

// String shows bytes that are no text, too.
func (f file) String() string { return fmt.Sprintf("%s %q of which %d last", f.name, f.bytes, f.lasts) }

// lasting is a file all of which lasts.
func lasting(name string, bytes string) file { return file{name, bytes, len(bytes)} }

func look(d *disk.Disk) []file {
	var files []file
	for _, name := range d.List() {
		b, _ := d.Read(name)
		files = append(files, file{name, string(b), d.Synced(name)})
	}
	return files
}

func wantFiles(t *testing.T, d *disk.Disk, want ...file) {
	t.Helper()
	if got := look(d); !slices.Equal(got, want) {
		t.Errorf("files are %v, not %v", got, want)
	}
}

func wantErr(t *testing.T, what string, got api.Errno, want api.Errno) {
	t.Helper()
	if got != want {
		t.Errorf("%s: error %d, not %d", what, got, want)
	}
}

// filled is a disk of these files, in which so many bytes of each last.
func filled(t *testing.T, room int, files ...file) *disk.Disk {
	t.Helper()
	d := disk.New(room)
	for _, f := range files {
		wantErr(t, "write", d.Write(f.name, []byte(f.bytes[:f.lasts])), api.OK)
		if f.lasts > 0 {
			wantErr(t, "sync", d.Sync(f.name), api.OK)
		}
		wantErr(t, "write", d.Write(f.name, []byte(f.bytes[f.lasts:])), api.OK)
	}
	return d
}

// crowd is n empty files, by names that stand ahead of the log's own.
func crowd(n int) []file {
	var files []file
	for i := range n {
		files = append(files, lasting("a"+strconv.Itoa(i/10)+strconv.Itoa(i%10), ""))
	}
	return files
}

// many is more calls than any fuse here.
const many = 200

// left is how many calls the fuse still lets be done; many, where there is none. It burns them.
func left(d *disk.Disk) int {
	for calls := range many {
		if d.Delete("none") == api.ErrDead {
			return calls
		}
	}
	return many
}

func wantLeft(t *testing.T, d *disk.Disk, want int) {
	t.Helper()
	if got := left(d); got != want {
		t.Errorf("%d calls are left, not %d", got, want)
	}
}

// The bytes that files have by the words of the chapters alone.

func summed(b []byte) string {
	return string(binary.BigEndian.AppendUint32(b, crc32.ChecksumIEEE(b)))
}

func name(first int64) string { return fmt.Sprintf("s%010d", first) }

func head(first int64) string {
	return summed(binary.BigEndian.AppendUint32([]byte("GOV1"), uint32(first)))
}

func list(l ...int64) string {
	b := []byte{byte(len(l))}
	for _, n := range l {
		b = binary.BigEndian.AppendUint32(b, uint32(n))
	}
	return summed(b)
}

func record(f api.Frame) string {
	b := binary.BigEndian.AppendUint16(nil, uint16(len(f.Body)))
	b = binary.BigEndian.AppendUint32(append(b, byte(f.Type)), uint32(f.Seq))
	return summed(append(b, f.Body...))
}

// kindOf is the type that frames have here, by their numbers.
func kindOf(seq int64) int { return int(seq%api.MaxType) + 1 }

// row is frames of these bodies, with numbers from first on.
func row(first int64, bodies ...string) []api.Frame {
	var frames []api.Frame
	for _, body := range bodies {
		frames = append(frames, api.Frame{Type: kindOf(first), Seq: first, Body: []byte(body)})
		first++
	}
	return frames
}

// seg is the bytes of a segment with these frames' bodies.
func seg(first int64, bodies ...string) string {
	b := head(first)
	for _, f := range row(first, bodies...) {
		b += record(f)
	}
	return b
}

// whole is the file of a segment, all of which lasts; listed the manifest's.
func whole(first int64, bodies ...string) file { return lasting(name(first), seg(first, bodies...)) }

func listed(l ...int64) file { return lasting("manifest", list(l...)) }

func text(size int) string { return strings.Repeat("x", size) }

func alike(a []api.Frame, b []api.Frame) bool {
	return slices.EqualFunc(a, b, func(a api.Frame, b api.Frame) bool {
		return a.Type == b.Type && a.Seq == b.Seq && string(a.Body) == string(b.Body)
	})
}

// openOn opens a log that there must be.
func openOn(t *testing.T, d *disk.Disk, size int) *seglog.Log {
	t.Helper()
	l, e := seglog.Open(d, size)
	if e != api.OK || l == nil {
		t.Fatalf("Open: error %d, of %v", e, look(d))
	}
	return l
}

// wantLog asks for all that a log tells: its segments, its frames, the number behind.
func wantLog(t *testing.T, l *seglog.Log, segments []int64, frames []api.Frame, next int64) {
	t.Helper()
	if got := l.Segments(); !slices.Equal(got, segments) {
		t.Errorf("segments are %v, not %v", got, segments)
	}
	if got := l.Frames(); !alike(got, frames) {
		t.Errorf("frames are %v, not %v", got, frames)
	}
	if got := l.Next(); got != next {
		t.Errorf("next is %d, not %d", got, next)
	}
}

// put appends frames of these bodies, as row has them.
func put(t *testing.T, l *seglog.Log, bodies ...string) {
	t.Helper()
	for _, body := range bodies {
		wantAppended(t, l, body)
	}
}

func wantAppended(t *testing.T, l *seglog.Log, body string) {
	t.Helper()
	want := l.Next()
	if n, e := l.Append(kindOf(want), []byte(body)); n != want || e != api.OK {
		t.Fatalf("Append of %d bytes: %d, error %d, not %d", len(body), n, e, want)
	}
	if l.Next() != want+1 {
		t.Errorf("next is %d behind %d", l.Next(), want)
	}
}

// wantNotAppended asks for that error, and for nothing beside it: the log tells what it told.
func wantNotAppended(t *testing.T, l *seglog.Log, kind int, body string, want api.Errno) {
	t.Helper()
	frames, next := l.Frames(), l.Next()
	if n, e := l.Append(kind, []byte(body)); n != 0 || e != want {
		t.Errorf("Append of type %d, %d bytes: %d, error %d, not %d", kind, len(body), n, e, want)
	}
	wantLog(t, l, l.Segments(), frames, next)
}
