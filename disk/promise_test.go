package disk_test

import (
	"math/rand/v2"
	"strings"
	"testing"

	"governor/api"
	"governor/disk"
)

// watch goes beside a disk, and knows only what the promises tell: which bytes were made to last under which name.
type watch struct {
	t     *testing.T
	d     *disk.Disk
	r     *rand.Rand
	room  int
	lasts map[string]string
}

func newWatch(t *testing.T, seed uint64) *watch {
	r := rand.New(rand.NewPCG(seed, 1))
	room := r.IntN(200)
	return &watch{t: t, d: disk.New(room), r: r, room: room, lasts: map[string]string{}}
}

func (w *watch) name() string {
	return []string{"a", "b", "c", "d", "e.tmp", "no name", ""}[w.r.IntN(7)]
}

func (w *watch) write() {
	w.d.Write(w.name(), []byte(strings.Repeat(string(rune('a'+w.r.IntN(26))), w.r.IntN(20))))
}

func (w *watch) sync() {
	name := w.name()
	if w.d.Sync(name) == api.OK {
		b, _ := w.d.Read(name)
		w.lasts[name] = string(b)
	}
}

func (w *watch) rename() {
	name, to := w.name(), w.name()
	if w.d.Rename(name, to) != api.OK || name == to {
		return
	}
	delete(w.lasts, to)
	if last, is := w.lasts[name]; is {
		w.lasts[to] = last
	}
	delete(w.lasts, name)
}

func (w *watch) delete() {
	name := w.name()
	if w.d.Delete(name) == api.OK {
		delete(w.lasts, name)
	}
}

// crash is where P1.2 and P1.3 are asked; what is left lasts from then on.
func (w *watch) crash() {
	keep := make([]int, w.r.IntN(7))
	for i := range keep {
		keep[i] = w.r.IntN(25) - 3
	}
	before := look(w.d)
	w.d.Crash(keep)
	after := look(w.d)
	if len(after) != len(before) {
		w.t.Errorf("%v became %v", before, after)
		return
	}
	for i, r := range after {
		if r.name != before[i].name || !strings.HasPrefix(before[i].bytes, r.bytes) || r.lasts != len(r.bytes) {
			w.t.Errorf("P1.3: %v became %v", before[i], r)
		}
		w.checkLasts(r)
		w.lasts[r.name] = r.bytes
	}
}

func (w *watch) checkLasts(r row) {
	if !strings.HasPrefix(r.bytes, w.lasts[r.name]) {
		w.t.Errorf("P1.2: of %v lasted %q", r, w.lasts[r.name])
	}
}

// check is asked behind each step: P1.4, and that what lasts is there while the machine runs, too.
func (w *watch) check() {
	used := 0
	there := map[string]bool{}
	for _, r := range look(w.d) {
		used += len(r.bytes)
		there[r.name] = true
		if r.lasts != len(w.lasts[r.name]) {
			w.t.Errorf("of %v lasts %q", r, w.lasts[r.name])
		}
		w.checkLasts(r)
	}
	for name := range w.lasts {
		if !there[name] {
			w.t.Errorf("P1.2: %q is gone", name)
		}
	}
	if used > w.room || used != w.d.Used() || len(there) > api.MaxFiles {
		w.t.Errorf("P1.4: %d (told %d) of %d, in %d files", used, w.d.Used(), w.room, len(there))
	}
}

func (w *watch) step() {
	switch n := w.r.IntN(20); {
	case n < 8:
		w.write()
	case n < 12:
		w.sync()
	case n < 14:
		w.rename()
	case n < 15:
		w.delete()
	case n < 16:
		w.d.Fuse(w.r.IntN(10) - 1)
	case n < 17:
		w.d.Fail(w.r.IntN(3) - 1)
	default:
		w.crash()
	}
}

// P1.2, P1.3, P1.4: over scripts of any steps, the same ones each time.
func TestScripts(t *testing.T) {
	for seed := range uint64(300) {
		w := newWatch(t, seed)
		for range 200 {
			w.step()
			w.check()
		}
		if t.Failed() {
			t.Fatal("script", seed)
		}
	}
}

// P1.2: what was made to last stays through each Crash, but where it is deleted, or its name is given away.
func TestWhatLasts(t *testing.T) {
	d := filled(t, 50, row{"a", "stays", 5}, row{"b", "goes", 4}, row{"c", "moves", 5}, row{"d", "given", 5}, row{"e", "away", 0})
	wantErr(t, "delete", d.Delete("b"), api.OK)
	wantErr(t, "rename", d.Rename("c", "f"), api.OK)
	wantErr(t, "rename to another one's", d.Rename("e", "d"), api.OK)
	want := []row{{"a", "stays", 5}, {"d", "", 0}, {"f", "moves", 5}}
	for range 3 {
		wantErr(t, "write", d.Write("a", []byte("not")), api.OK)
		d.Fuse(0)
		wantErr(t, "delete", d.Delete("a"), api.ErrDead)
		d.Crash(nil)
		wantRows(t, d, want...)
	}
}

// P1.2: a Sync that failed, or was not done, made nothing last.
func TestWhatDoesNotLast(t *testing.T) {
	d := filled(t, 50, row{"a", "abc", 1}, row{"b", "abc", 1})
	d.Fail(1)
	wantErr(t, "sync that fails", d.Sync("a"), api.ErrIO)
	d.Fuse(0)
	wantErr(t, "sync while it stands still", d.Sync("b"), api.ErrDead)
	d.Crash(nil)
	wantRows(t, d, row{"a", "a", 1}, row{"b", "a", 1})
}

// P1.3: for each number that is kept the bytes are the beginning, in their order.
func TestABeginning(t *testing.T) {
	const all = "0123456789"
	for lasts := range len(all) + 1 {
		for keep := -2; keep < 13; keep++ {
			d := filled(t, 50, row{"a", all, lasts})
			d.Crash([]int{keep})
			left := min(max(lasts, lasts+keep), len(all))
			wantRows(t, d, row{"a", all[:left], left})
		}
	}
}

// P1.4: the room holds for all files together, whatever it is.
func TestRoom(t *testing.T) {
	for room := range 12 {
		d := disk.New(room)
		for i := range 40 {
			name := []string{"a", "b", "c"}[i%3]
			ahead := d.Used()
			want := api.OK
			if ahead+i%5 > room {
				want = api.ErrFull
			}
			wantErr(t, "write", d.Write(name, make([]byte, i%5)), want)
			if d.Used() > room || want == api.ErrFull && d.Used() != ahead {
				t.Errorf("%d of %d", d.Used(), room)
			}
		}
	}
}
