package seglog_test

import (
	"encoding/binary"
	"hash/crc32"
	"slices"
	"strconv"

	"governor/api"
	"governor/disk"
)

// words is a log by the words of the chapter, one call behind the other: an error ends what is done, and is told.
type words struct {
	d    *disk.Disk
	size int
	segs []int64
	next int64
}

// must ends what is done where a call has an error, ended tells which.
func must(e api.Errno) {
	if e != api.OK {
		panic(e)
	}
}

func ended(do func()) (e api.Errno) {
	defer func() {
		if v := recover(); v != nil {
			e = v.(api.Errno)
		}
	}()
	do()
	return api.OK
}

func number(b []byte) int64 { return int64(binary.BigEndian.Uint32(b)) }

func isSummed(b []byte) bool {
	return number(b[len(b)-4:]) == int64(crc32.ChecksumIEEE(b[:len(b)-4]))
}

// parse is a segment's first number, its frames, and how many bytes are good; none are, where it has no head.
func parse(b []byte) (first int64, frames []api.Frame, good int) {
	if len(b) < 12 || string(b[:4]) != "GOV1" || !isSummed(b[:12]) || number(b[4:]) > 1<<30 {
		return 0, nil, 0
	}
	first, good = number(b[4:]), 12
	for {
		rest := b[good:]
		if len(rest) < 2 {
			return first, frames, good
		}
		size := int(rest[0])<<8 | int(rest[1])
		if size > 1800 || len(rest) < 11+size || !isSummed(rest[:11+size]) {
			return first, frames, good
		}
		f := api.Frame{Type: int(rest[2]), Seq: number(rest[3:]), Body: rest[7 : 7+size]}
		if f.Type < 1 || f.Type > 15 || f.Seq > 1<<30 || f.Seq != first+int64(len(frames)) {
			return first, frames, good
		}
		frames = append(frames, f)
		good += 11 + size
	}
}

// names is the list of the manifest; none, if there is none that is right.
func names(b []byte) []int64 {
	if len(b) == 0 || len(b) != 5+4*int(b[0]) || !isSummed(b) || b[0] < 1 || b[0] > 40 {
		return nil
	}
	var l []int64
	for i := range int(b[0]) {
		n := number(b[1+4*i:])
		if n > 1<<30 || i > 0 && n <= l[i-1] {
			return nil
		}
		l = append(l, n)
	}
	return l
}

func isSegment(name string) bool {
	if len(name) != 11 || name[0] != 's' {
		return false
	}
	n, err := strconv.ParseUint(name[1:], 10, 64)
	return err == nil && n <= 1<<30
}

func (w *words) is(name string) bool { return slices.Contains(w.d.List(), name) }

func (w *words) read(first int64) []byte {
	b, _ := w.d.Read(name(first))
	return b
}

func (w *words) deleteIfThere(name string) {
	if w.is(name) {
		must(w.d.Delete(name))
	}
}

func (w *words) swap(l []int64) {
	w.deleteIfThere("manifest.tmp")
	for _, c := range swap(l...) {
		e := c.do(w.d)
		if e != api.OK && e != api.ErrDead {
			w.d.Delete("manifest.tmp")
		}
		must(e)
	}
}

func (w *words) lay(first int64) {
	w.deleteIfThere(name(first))
	segs := append(slices.Clone(w.segs), first)
	e := ended(func() {
		must(w.d.Write(name(first), []byte(head(first))))
		must(w.d.Sync(name(first)))
		w.swap(segs)
	})
	if e != api.OK && e != api.ErrDead {
		w.d.Delete(name(first))
	}
	must(e)
	w.segs = segs
}

func (w *words) findGood(listed []int64) (good []byte, torn bool) {
	for i, first := range listed {
		b := w.read(first)
		told, frames, n := parse(b)
		if torn || !w.is(name(first)) || n == 0 || told != first || i > 0 && first != w.next {
			break
		}
		w.segs = append(w.segs, first)
		w.next = first + int64(len(frames))
		good, torn = b[:n], n < len(b)
	}
	return good, torn
}

func (w *words) open() {
	manifest, _ := w.d.Read("manifest")
	listed := names(manifest)
	good, torn := w.findGood(listed)
	none := len(w.segs) == 0
	if !none && len(w.segs) < len(listed) {
		w.swap(w.segs)
	}
	if torn {
		w.deleteIfThere("fix.tmp")
		must(w.d.Write("fix.tmp", good))
		must(w.d.Sync("fix.tmp"))
		must(w.d.Rename("fix.tmp", name(w.segs[len(w.segs)-1])))
	}
	for _, file := range w.d.List() {
		if isSegment(file) && !slices.ContainsFunc(w.segs, func(first int64) bool { return name(first) == file }) {
			must(w.d.Delete(file))
		}
	}
	if none {
		w.lay(0)
	} else {
		must(w.d.Sync(name(w.segs[len(w.segs)-1])))
	}
	w.deleteIfThere("fix.tmp")
	w.deleteIfThere("manifest.tmp")
}

func openByWords(d *disk.Disk, size int) (*words, api.Errno) {
	if size < 64 || size > 1<<16 {
		return nil, api.ErrArg
	}
	w := &words{d: d, size: size}
	if e := ended(w.open); e != api.OK {
		return nil, e
	}
	return w, api.OK
}

func (w *words) Append(kind int, body []byte) (int64, api.Errno) {
	if kind < 1 || kind > 15 || w.next > 1<<30 || len(body) > 1800 {
		return 0, api.ErrArg
	}
	b := record(api.Frame{Type: kind, Seq: w.next, Body: body})
	e := ended(func() {
		last := w.segs[len(w.segs)-1]
		if w.next > last && len(w.read(last))+len(b) > w.size {
			if len(w.segs) == 40 {
				must(api.ErrFull)
			}
			must(w.d.Sync(name(last)))
			w.lay(w.next)
			last = w.next
		}
		must(w.d.Write(name(last), []byte(b)))
	})
	if e != api.OK {
		return 0, e
	}
	w.next++
	return w.next - 1, api.OK
}

func (w *words) Sync() api.Errno { return w.d.Sync(name(w.segs[len(w.segs)-1])) }

func (w *words) Retain(seq int64) api.Errno {
	var gone, stay []int64
	for i, first := range w.segs {
		if slices.ContainsFunc(w.segs[i+1:], func(other int64) bool { return other <= seq }) {
			gone = append(gone, first)
		} else {
			stay = append(stay, first)
		}
	}
	if len(gone) == 0 {
		return api.OK
	}
	if e := ended(func() { w.swap(stay) }); e != api.OK {
		return e
	}
	w.segs = stay
	told := api.OK
	for _, first := range gone {
		if e := w.d.Delete(name(first)); told == api.OK {
			told = e
		}
	}
	return told
}

func (w *words) Frames() []api.Frame {
	var all []api.Frame
	for _, first := range w.segs {
		_, frames, _ := parse(w.read(first))
		all = append(all, frames...)
	}
	return all
}
