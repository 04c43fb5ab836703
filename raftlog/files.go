package raftlog

import (
	"logboom/api"
	"logboom/disk"
)

// What stands behind the prefix in the names of a log's files.
const (
	termFile = ".term"
	snapFile = ".snap"
	logFile  = ".log"
)

// disk also serves a log that Open did not make: its disk has no room.
func (l *Log) disk() *disk.Disk {
	if l.d == nil {
		return &disk.Disk{}
	}
	return l.d
}

// load has the state be what the files say.
func (l *Log) load() api.Errno {
	if e := l.loadTerm(); e != api.OK {
		return e
	}
	if e := l.loadSnap(); e != api.OK {
		return e
	}
	if e := l.loadLog(); e != api.OK {
		return e
	}
	// Others may have written what was read, and not made it safe: a crash must not take back what is told from now on.
	for _, file := range [...]string{termFile, snapFile, logFile} {
		l.disk().Sync(l.prefix + file)
	}
	return api.OK
}

func (l *Log) loadTerm() api.Errno {
	b, e := l.disk().Read(l.prefix + termFile)
	if e != api.OK {
		return api.OK
	}
	l.term, l.vote, e = readTerm(b)
	return e
}

func (l *Log) loadSnap() api.Errno {
	b, e := l.disk().Read(l.prefix + snapFile)
	if e != api.OK {
		return api.OK
	}
	l.snap, e = readSnap(b)
	return e
}

// loadLog also cuts off what is torn at the end of the file.
func (l *Log) loadLog() api.Errno {
	b, e := l.disk().Read(l.prefix + logFile)
	if e != api.OK {
		return api.OK
	}
	list, size, e := readEntries(b, l.snap.Index)
	if e != api.OK {
		return e
	}
	l.list = behind(list, l.snap.Index)
	if size < len(b) {
		return l.disk().Cut(l.prefix+logFile, size)
	}
	return api.OK
}

// write has the file have those entries, behind what the log has ahead of the first of them.
func (l *Log) write(list []api.Entry) api.Errno {
	d, name, text := l.disk(), l.prefix+logFile, logText(list)
	// Where no entry stays, nothing of the file does: also not what Open left out of it, which may not go with what comes.
	gone := d.Size(name)
	if n := list[0].Index - l.First(); n > 0 {
		gone = len(logText(l.list[n:]))
	}
	if len(text) > d.Free()+gone {
		return api.ErrFull
	}
	if gone > 0 {
		if e := d.Cut(name, d.Size(name)-gone); e != api.OK {
			return e
		}
	}
	if e := d.Append(name, text); e != api.OK {
		return e
	}
	return d.Sync(name)
}

// rewrite has the file, if there is one, have the log's entries, and nothing more.
func (l *Log) rewrite() api.Errno {
	name := l.prefix + logFile
	if _, e := l.disk().Read(name); e != api.OK {
		return api.OK
	}
	return l.disk().Replace(name, logText(l.list))
}
