package store

import (
	"logboom/api"
	"logboom/dedup"
	"logboom/disk"
)

// disk also serves a store that Open did not make: its disk has no room.
func (s *Store) disk() *disk.Disk {
	if s.d == nil {
		return &disk.Disk{}
	}
	return s.d
}

// load has the table be what was kept; where nothing was, it is new.
func (s *Store) load() api.Errno {
	kept, e := s.disk().Read(s.file)
	if e != api.OK {
		s.table = dedup.New()
		return api.OK
	}
	s.table, e = dedup.Load(kept)
	return e
}

// keep writes a table, as it tells itself.
func (s *Store) keep(text func() string) api.Errno {
	return s.disk().Replace(s.file, text())
}

// learn has the cache and the table say of the log what it says itself. A table that was kept may be of a time gone by: of places in the log it is not asked.
func (s *Store) learn() {
	s.cache.Cut(s.log.Next())
	s.Table().Cut(s.log.Start())
	for _, b := range s.log.All() {
		if b.Epoch > s.cache.Last() {
			// An error is passed over: a log whose epochs find no room can be read all the same.
			s.cache.Begin(b.Epoch, b.Base)
		}
		s.Table().Note(b)
	}
}

// turn changes the log at an offset, and then, if it does not refuse that, the cache and the table at the one that it tells now: each by a call of its own.
func turn(offset int, log func(int) api.Errno, now func() int, cache func(int) api.Errno, table func(int)) api.Errno {
	if e := log(offset); e != api.OK {
		return e
	}
	// The log does not go back, so an error is passed over: a cache that finds no room tells of epochs ahead of the log's start, too.
	cache(now())
	table(now())
	return api.OK
}

// takeMore takes one more batch of the last epoch.
func (s *Store) takeMore(b api.Batch) api.Errno {
	if e := s.log.Take(b); e != api.OK {
		return e
	}
	s.Table().Note(b)
	return api.OK
}

// takeFirst takes the first batch of an epoch. The epoch begins ahead of it: so the cache knows of each batch that a crash may leave.
func (s *Store) takeFirst(b api.Batch) api.Errno {
	if e := s.cache.Begin(b.Epoch, s.log.Next()); e != api.OK {
		return e
	}
	e := s.takeMore(b)
	if e != api.OK {
		s.cache.Cut(s.log.Next())
	}
	return e
}
