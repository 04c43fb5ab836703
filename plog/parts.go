package plog

import (
	"sort"

	"logboom/api"
	"logboom/disk"
	"logboom/segment"
	"logboom/wire"
)

// load opens the files that follow each other, and removes the others.
func (l *Log) load() []segment.Segment {
	var list []segment.Segment
	bases := l.bases()
	for _, base := range bases {
		if !l.follows(list, base) {
			break
		}
		s, _, e := segment.Open(l.disk(), l.file(base), base)
		if e != api.OK {
			break
		}
		list = append(list, *s)
	}
	for _, base := range bases[len(list):] {
		l.remove(base)
	}
	return list
}

// follows tells whether a segment with that base may stand behind those.
func (l *Log) follows(list []segment.Segment, base int) bool {
	if len(list) == 0 {
		return base <= l.start
	}
	return base == list[len(list)-1].Next()
}

// renew leaves one segment, an empty one that begins at START.
func (l *Log) renew() api.Errno {
	for _, base := range l.bases() {
		l.remove(base)
	}
	l.older = nil
	return l.open(l.start)
}

// roll goes on in a new segment. What is not the last one is synced: so a crash tears the last one alone.
func (l *Log) roll() api.Errno {
	if e := l.Sync(); e != api.OK {
		return e
	}
	full := l.written
	if e := l.open(l.Next()); e != api.OK {
		return e
	}
	l.older = append(l.older, full)
	return api.OK
}

// open has a segment with that base be the one that is written.
func (l *Log) open(base int) api.Errno {
	s, _, e := segment.Open(l.disk(), l.file(base), base)
	if e == api.OK {
		l.written = *s
	}
	return e
}

func (l *Log) remove(base int) { l.disk().Remove(l.file(base)) }

// admit is why a batch may not be the next one; OK: it may.
func (l *Log) admit(b api.Batch) api.Errno {
	if b.Base != l.Next() {
		return api.ErrOrder
	}
	if e := wire.Right(b); e != api.OK {
		return e
	}
	if end(b) > api.MaxOffset {
		return api.ErrOver
	}
	return api.OK
}

// ahead is how many of the older segments end at an offset, or ahead of it.
func (l *Log) ahead(offset int) int {
	return sort.Search(len(l.older), func(i int) bool { return l.older[i].Next() > offset })
}

// from is the segments from the one that has an offset on.
func (l *Log) from(offset int) []*segment.Segment {
	var list []*segment.Segment
	for i := l.ahead(offset); i < len(l.older); i++ {
		list = append(list, &l.older[i])
	}
	return append(list, &l.written)
}

// isPlace tells whether a batch begins at an offset, or would.
func (l *Log) isPlace(offset int) bool {
	if offset == l.Next() {
		return true
	}
	list, _ := l.Read(offset, 0)
	return len(list) > 0 && list[0].Base == offset
}

// disk also serves a log that Open did not make: it is one on a disk without room.
func (l *Log) disk() *disk.Disk {
	if l.d == nil {
		return &disk.Disk{}
	}
	return l.d
}

// end is the offset behind a batch's last record.
func end(b api.Batch) int { return b.Base + len(b.Records) }

// size is how many bytes batches have on the disk, where each has the one form that there is.
func size(list ...api.Batch) int {
	n := 0
	for _, b := range list {
		text, _ := wire.Batch(b)
		n += len(text)
	}
	return n
}
