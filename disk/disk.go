// Package disk is layer 1: see shared/doc/01-disk.md.
package disk

import (
	"slices"
	"strings"

	"governor/api"
)

// endless is the fuse that never burns down.
const endless = -1

// Disk is files, that only grow; the machine may stand still, and begin anew.
type Disk struct {
	files map[string]file
	room  int
	fuse  int
	fails int
}

// file stands in the map as a copy: it is changed by laying it back as a whole, so that what ends early has changed nothing.
type file struct {
	bytes []byte
	lasts int
}

// New is one of so many bytes; nil: it may not be.
func New(room int) *Disk {
	if room < 0 || room > api.MaxDisk {
		return nil
	}
	return &Disk{files: map[string]file{}, room: room, fuse: endless}
}

// Write puts bytes behind a file's, Sync makes them last, Rename gives a file another name, Delete takes one away.
func (d *Disk) Write(name string, b []byte) api.Errno {
	return d.call(func() api.Errno {
		if !isName(name) {
			return api.ErrArg
		}
		if !d.fits(name, len(b)) {
			return api.ErrFull
		}
		f := d.files[name]
		f.bytes = append(f.bytes, b...)
		d.lay(name, f)
		return api.OK
	})
}

func (d *Disk) Sync(name string) api.Errno {
	return d.callOn(name, func(f file) api.Errno {
		if d.fails > 0 {
			d.fails--
			return api.ErrIO
		}
		f.lasts = len(f.bytes)
		d.lay(name, f)
		return api.OK
	})
}

func (d *Disk) Rename(name string, to string) api.Errno {
	return d.call(func() api.Errno {
		if !isName(to) {
			return api.ErrArg
		}
		f, is := d.files[name]
		if !is {
			return api.ErrNone
		}
		// Taken away first: name and to may be the same.
		delete(d.files, name)
		d.lay(to, f)
		return api.OK
	})
}

func (d *Disk) Delete(name string) api.Errno {
	return d.callOn(name, func(file) api.Errno {
		delete(d.files, name)
		return api.OK
	})
}

// Read is a file's bytes, List all files' names, Synced how many of a file's bytes last, Used how many bytes there are.
func (d *Disk) Read(name string) ([]byte, bool) {
	f, is := d.files[name]
	return slices.Clone(f.bytes), is
}

func (d *Disk) List() []string {
	names := make([]string, 0, len(d.files))
	for name := range d.files {
		names = append(names, name)
	}
	slices.Sort(names)
	return names
}

func (d *Disk) Synced(name string) int { return d.files[name].lasts }

func (d *Disk) Used() int {
	used := 0
	for _, f := range d.files {
		used += len(f.bytes)
	}
	return used
}

// Fuse has the machine stand still behind so many calls, Fail has so many Syncs not be done, Crash begins anew, with so many bytes of each file left beyond those that last.
func (d *Disk) Fuse(calls int) { d.fuse = max(calls, endless) }

func (d *Disk) Fail(syncs int) { d.fails = max(syncs, 0) }

func (d *Disk) Crash(keep []int) {
	for i, name := range d.List() {
		f := d.files[name]
		f.lasts += kept(keep, i, len(f.bytes)-f.lasts)
		f.bytes = f.bytes[:f.lasts]
		d.lay(name, f)
	}
	d.fuse, d.fails = endless, 0
}

// call guards what a call does by the fuse. It burns ahead of what is done, as a call that is an error burns it, too.
func (d *Disk) call(do func() api.Errno) api.Errno {
	if d.fuse == 0 {
		return api.ErrDead
	}
	if d.fuse > 0 {
		d.fuse--
	}
	return do()
}

// callOn is a call that is ErrNone where there is no file of that name.
func (d *Disk) callOn(name string, do func(f file) api.Errno) api.Errno {
	return d.call(func() api.Errno {
		f, is := d.files[name]
		if !is {
			return api.ErrNone
		}
		return do(f)
	})
}

// lay copies the name, as no string that is handed in is kept: a map keeps the key of the last store.
func (d *Disk) lay(name string, f file) { d.files[strings.Clone(name)] = f }

func (d *Disk) fits(name string, more int) bool {
	_, is := d.files[name]
	return (is || len(d.files) < api.MaxFiles) && d.Used()+more <= d.room
}

func isName(name string) bool {
	if len(name) < 1 || len(name) > api.MaxName {
		return false
	}
	// By bytes, not runes: a name that is no UTF-8 is refused by the same rule.
	for i := range len(name) {
		if !inName(name[i]) {
			return false
		}
	}
	return true
}

func inName(c byte) bool {
	return 'a' <= c && c <= 'z' || '0' <= c && c <= '9' || c == '.' || c == '-'
}

// kept holds what keep says within what there is ahead of any sum, which could wrap round.
func kept(keep []int, at int, most int) int {
	if at >= len(keep) {
		return 0
	}
	return min(max(keep[at], 0), most)
}
