package manifest_test

import (
	"bytes"
	"math/rand/v2"
	"slices"
	"sync"
	"testing"

	"governor/api"
	"governor/disk"
	"governor/manifest"
)

// P5.2

func TestThereAndBack(t *testing.T) {
	r := rand.New(rand.NewPCG(5, 10))
	for range 2000 {
		l := rising(r, 1+r.IntN(api.MaxSegments))
		wantGot(t, manifest.Put(l), l)
	}
}

// Lists that are unlike have bytes that are unlike.
func TestUnlikeListsHaveUnlikeBytes(t *testing.T) {
	seen := map[string][]int64{}
	for set := 1; set < 1<<12; set++ {
		var l []int64
		for i := range 12 {
			if set>>i&1 == 1 {
				l = append(l, int64(i*i*i*i*i*100))
			}
		}
		b := manifest.Put(l)
		if other, is := seen[string(b)]; is {
			t.Fatalf("%v and %v are both %x", l, other, b)
		}
		seen[string(b)] = l
		wantGot(t, b, l)
	}
}

// From no other bytes is a list got: what is got has just the bytes from which it was, whatever was turned, and with the sum that is asked for.
func TestTheseBytesAlone(t *testing.T) {
	r := rand.New(rand.NewPCG(5, 11))
	got := 0
	for range 50000 {
		b := manifest.Put(rising(r, 1+r.IntN(6)))
		b = b[:len(b)-4]
		for range r.IntN(3) {
			b[r.IntN(len(b))] ^= 1 << r.IntN(8)
		}
		if r.IntN(8) > 0 {
			b = summed(b)
		}
		if l, e := manifest.Get(b); e == api.OK {
			got++
			if !manifest.Right(l) || !bytes.Equal(manifest.Put(l), b) || !bytes.Equal(told(l...), b) {
				t.Errorf("Get of %x: %v", b, l)
			}
		}
	}
	if got < 10000 {
		t.Error("only", got, "were got")
	}
}

// The rules: P1, any bytes end.
func TestAnyBytesEnd(t *testing.T) {
	r := rand.New(rand.NewPCG(5, 12))
	for range 50000 {
		b := make([]byte, r.IntN(40))
		for i := range b {
			b[i] = byte(r.IntN(256))
		}
		if len(b) > 0 && r.IntN(2) == 0 {
			b[0] = byte(r.IntN(8))
			b = summed(b)
		}
		l, e := manifest.Get(b)
		if (e == api.OK) != manifest.Right(l) || e == api.OK && !bytes.Equal(told(l...), b) {
			t.Errorf("Get of %x: %v, error %d", b, l, e)
		}
	}
}

// swapByWords is Swap by its words, of a list that is right.
func swapByWords(d *disk.Disk, l []int64) api.Errno {
	if slices.Contains(d.List(), "manifest.tmp") {
		if e := d.Delete("manifest.tmp"); e != api.OK {
			return e
		}
	}
	if e := d.Write("manifest.tmp", told(l...)); e != api.OK {
		if e != api.ErrDead {
			d.Delete("manifest.tmp")
		}
		return e
	}
	if e := d.Sync("manifest.tmp"); e != api.OK {
		if e != api.ErrDead {
			d.Delete("manifest.tmp")
		}
		return e
	}
	return d.Rename("manifest.tmp", "manifest")
}

// twins is two disks to which the same is done, but for Swap, of which one has the words; and the list that is there.
type twins struct {
	t     *testing.T
	r     *rand.Rand
	own   *disk.Disk
	words *disk.Disk
	there []int64
}

func newTwins(t *testing.T, seed uint64) *twins {
	r := rand.New(rand.NewPCG(seed, 5))
	room := r.IntN(120)
	return &twins{t: t, r: r, own: disk.New(room), words: disk.New(room)}
}

func (w *twins) both(do func(d *disk.Disk)) {
	do(w.own)
	do(w.words)
}

// swap is where P5.3 is asked: behind an error the list that was there still is, as all errors are ahead of the Rename.
func (w *twins) swap() {
	l := rising(w.r, 1+w.r.IntN(5))
	e := manifest.Swap(w.own, l)
	if want := swapByWords(w.words, l); e != want {
		w.t.Errorf("Swap to %v: error %d, not %d", l, e, want)
	}
	if e == api.OK {
		w.there = l
	}
}

func (w *twins) crash() {
	keep := make([]int, w.r.IntN(5))
	for i := range keep {
		keep[i] = w.r.IntN(30) - 3
	}
	w.both(func(d *disk.Disk) { d.Crash(keep) })
}

// other is what others do on the disk: with their own files, and with what is left of a Swap.
func (w *twins) other() {
	name := []string{"a", "manifest.tmp", "z"}[w.r.IntN(3)]
	b := make([]byte, w.r.IntN(12))
	what := w.r.IntN(4)
	w.both(func(d *disk.Disk) {
		switch what {
		case 0:
			d.Sync(name)
		case 1:
			d.Delete(name)
		default:
			d.Write(name, b)
		}
	})
}

func (w *twins) step() {
	n := w.r.IntN(6)
	switch w.r.IntN(8) {
	case 0:
		w.both(func(d *disk.Disk) { d.Fuse(n) })
	case 1:
		w.both(func(d *disk.Disk) { d.Fail(n - 3) })
	case 2:
		w.crash()
	case 3, 4:
		w.other()
	default:
		w.swap()
	}
}

// P5.3, over scripts of any steps, the same ones each time; and E2, by its words.
func TestScripts(t *testing.T) {
	for seed := range uint64(400) {
		w := newTwins(t, seed)
		for range 100 {
			w.step()
			wantFiles(t, w.own, look(w.words)...)
			wantThere(t, w.own, w.there)
		}
		calls := left(w.words)
		wantLeft(t, w.own, calls)
		if t.Failed() {
			t.Fatal("script", seed)
		}
	}
}

// P5.3: many lists, each Swap stopped at each place, and begun anew by a crash that keeps any part; the list is one of the two, as a whole.
func TestAsAWhole(t *testing.T) {
	lists := [][]int64{{1}, {1, 2}, row(0, 1, api.MaxSegments), {5, 6, 7}, {api.MaxSeq}}
	for _, was := range lists {
		for _, l := range lists {
			for fuse := range 5 {
				for _, keep := range []int{0, 1, 4, 5, 8, 9, 12, 13, 100, 164, 165, 1000} {
					d := filled(t, 400, lasting("manifest", was...))
					d.Fuse(fuse)
					there := was
					if manifest.Swap(d, l) == api.OK {
						there = l
					}
					wantLoaded(t, d, there)
					d.Crash([]int{keep, keep})
					wantLoaded(t, d, there)
					// What was left does not stand in the way of another one.
					wantErr(t, "Swap", manifest.Swap(d, []int64{3, 9}), api.OK)
					wantFiles(t, d, lasting("manifest", 3, 9))
				}
			}
		}
	}
}

// The rules: P3, what is handed in stays as it was, its spare room too.

func TestTheListStays(t *testing.T) {
	for _, l := range append(someLists(), wrongLists()...) {
		whole := slices.Concat([]int64{-7, -8}, l, []int64{-9, -10, -11})
		before := slices.Clone(whole)
		part := whole[2 : 2+len(l)]
		manifest.Right(part)
		manifest.Put(part)
		for fuse := -1; fuse < 4; fuse++ {
			d := disk.New(300)
			d.Fuse(fuse)
			manifest.Swap(d, part)
		}
		if !slices.Equal(whole, before) {
			t.Errorf("%v became %v", before, whole)
		}
	}
}

func TestTheBytesStay(t *testing.T) {
	for _, l := range append(someLists(), wrongBytes()...) {
		for _, b := range [][]byte{told(l...), told(l...)[:1+2*len(l)], append(told(l...)[:1+4*len(l)], 1, 2, 3, 4)} {
			whole := slices.Concat([]byte("ahead"), b, []byte("spare room"))
			before := bytes.Clone(whole)
			manifest.Get(whole[5 : 5+len(b)])
			if !bytes.Equal(whole, before) {
				t.Errorf("%x became %x", before, whole)
			}
		}
	}
}

// spoil writes over a list and over its spare room.
func spoil[T byte | int64](l []T) {
	l = l[:cap(l)]
	for i := range l {
		l[i] ^= 77
	}
}

// The rules: P3, what is handed in is not kept, what comes out is new.

func TestPutIsNew(t *testing.T) {
	for _, l := range someLists() {
		in := slices.Clone(l)
		a, b := manifest.Put(in), manifest.Put(in)
		spoil(a)
		if !slices.Equal(in, l) || !bytes.Equal(b, told(l...)) || !bytes.Equal(manifest.Put(in), b) {
			t.Errorf("Put of %v shares what it answered", l)
		}
		spoil(in)
		if !bytes.Equal(b, told(l...)) {
			t.Errorf("Put of %v shares what was handed in", l)
		}
	}
}

func TestGetIsNew(t *testing.T) {
	for _, l := range someLists() {
		in := told(l...)
		a, _ := manifest.Get(in)
		b, _ := manifest.Get(in)
		spoil(a)
		if !bytes.Equal(in, told(l...)) || !slices.Equal(b, l) {
			t.Errorf("Get of %x shares what it answered", in)
		}
		spoil(in)
		if !slices.Equal(b, l) {
			t.Errorf("Get of %x shares what was handed in", told(l...))
		}
	}
}

func TestSwapAndLoadShareNothing(t *testing.T) {
	for _, l := range someLists() {
		in := slices.Clone(l)
		d := disk.New(300)
		wantErr(t, "Swap", manifest.Swap(d, in), api.OK)
		spoil(in)
		wantLoaded(t, d, l)
		a, _ := manifest.Load(d)
		b, _ := manifest.Load(d)
		spoil(a)
		if !slices.Equal(b, l) {
			t.Errorf("two Loads of %v share", l)
		}
		wantLoaded(t, d, l)
		wantFiles(t, d, lasting("manifest", l...))
	}
}

// Disks are told apart: what is swapped on one is not there on another one.
func TestDisksAreTheirOwn(t *testing.T) {
	a, b := disk.New(100), disk.New(100)
	wantErr(t, "Swap", manifest.Swap(a, []int64{1}), api.OK)
	wantNotLoaded(t, b, api.ErrNone)
	wantErr(t, "Swap", manifest.Swap(b, []int64{2, 3}), api.OK)
	wantLoaded(t, a, []int64{1})
	wantLoaded(t, b, []int64{2, 3})
}

// What is answered hangs on the arguments alone: many at a time, in any order.
func TestManyAtATime(t *testing.T) {
	lists := someLists()
	var group sync.WaitGroup
	for worker := range 8 {
		group.Go(func() {
			d := disk.New(400)
			for i := range 100 {
				l := lists[(i*7+worker*31)%len(lists)]
				wantGot(t, manifest.Put(l), l)
				wantErr(t, "Swap", manifest.Swap(d, l), api.OK)
				wantLoaded(t, d, l)
			}
		})
	}
	group.Wait()
}
