package seglog

import (
	"iter"
	"slices"

	"governor/api"
	"governor/manifest"
	"governor/segment"
)

// restore has the log's segments be the good ones of the disk, and nothing else of segments be there.
func (l *Log) restore() api.Errno {
	listed, _ := manifest.Load(l.disk)
	good, torn := l.find(listed)
	if len(l.segments) == 0 {
		return inTurn(
			l.deleteStray,
			func() api.Errno { return l.lay(0) },
		)
	}
	return inTurn(
		func() api.Errno { return l.listGood(len(listed)) },
		func() api.Errno { return l.mend(good, torn) },
		l.deleteStray,
		l.Sync,
	)
}

// find takes those of the list that are good as the log's segments, and tells the good bytes of the last one, and whether there are more behind them. A file that is not there has no head, as one of no bytes.
func (l *Log) find(listed []int64) (good []byte, torn bool) {
	for _, first := range listed {
		b, _ := l.disk.Read(segment.Name(first))
		told, frames, n, e := segment.Read(b)
		if e != api.OK || told != first || !l.goesOn(first) {
			return nil, false
		}
		l.segments = append(l.segments, first)
		l.next = first + int64(len(frames))
		if n < len(b) {
			return b[:n], true
		}
	}
	return nil, false
}

// goesOn: does a segment of that first number stand behind those that were found?
func (l *Log) goesOn(first int64) bool { return len(l.segments) == 0 || first == l.next }

// listGood has the list be that of the good ones alone, where it has more.
func (l *Log) listGood(listed int) api.Errno {
	if len(l.segments) == listed {
		return api.OK
	}
	return manifest.Swap(l.disk, l.segments)
}

// mend has the last segment's file be its good bytes alone. They last under a name of their own ahead of that: files only grow, and a crash must find one of the two as a whole.
func (l *Log) mend(good []byte, torn bool) api.Errno {
	if !torn {
		return api.OK
	}
	return inTurn(
		func() api.Errno { return l.deleteAll(l.there(fix)) },
		func() api.Errno { return l.disk.Write(fix, good) },
		func() api.Errno { return l.disk.Sync(fix) },
		func() api.Errno { return l.disk.Rename(fix, l.last()) },
	)
}

// deleteStray deletes the files of segments that the log does not have.
func (l *Log) deleteStray() api.Errno { return l.deleteAll(l.stray()) }

func (l *Log) stray() iter.Seq[string] {
	return func(yield func(string) bool) {
		for _, name := range l.disk.List() {
			first, is := segment.First(name)
			if is && !slices.Contains(l.segments, first) && !yield(name) {
				return
			}
		}
	}
}
