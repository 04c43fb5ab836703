// Package disk: a stand-in disk: layer 1: see shared/doc/01-disk.md.
package disk

import (
	"maps"
	"slices"

	"logboom/api"
)

// longestName is that of a file; api.MaxName is another thing's.
const longestName = 64

// Disk is one: files, of each how much is synced.
type Disk struct {
	size  int
	files map[string]file
}

// file has bytes, of which the first safe ones outlast a crash. No two files share their bytes' memory.
type file struct {
	bytes []byte
	safe  int
}

// New makes one of so many bytes.
func New(size int) (*Disk, api.Errno) {
	if size < 1 || size > api.MaxDisk {
		return nil, api.ErrArg
	}
	return &Disk{size: size}, api.OK
}

// Append adds to a file (which is made, if there is none); Sync makes all of it safe; Cut cuts it; Replace writes a whole one at once; Rename and Remove are at once, too.
func (d *Disk) Append(name, b string) api.Errno {
	if e := d.admit(name); e != api.OK {
		return e
	}
	n := min(len(b), d.Free())
	f := d.files[name]
	f.bytes = append(f.bytes, b[:n]...)
	d.put(name, f)
	if n < len(b) {
		return api.ErrFull
	}
	return api.OK
}

func (d *Disk) Sync(name string) api.Errno {
	f, ok := d.files[name]
	if !ok {
		return api.ErrNone
	}
	f.safe = len(f.bytes)
	d.put(name, f)
	return api.OK
}

func (d *Disk) Cut(name string, n int) api.Errno {
	f, ok := d.files[name]
	if !ok {
		return api.ErrNone
	}
	if n < 0 || n > len(f.bytes) {
		return api.ErrArg
	}
	d.put(name, file{bytes: copied(f.bytes[:n]), safe: min(f.safe, n)})
	return api.OK
}

func (d *Disk) Replace(name, b string) api.Errno {
	if e := d.admit(name); e != api.OK {
		return e
	}
	if len(b) > d.Free()+d.Size(name) {
		return api.ErrFull
	}
	d.put(name, file{bytes: []byte(b), safe: len(b)})
	return api.OK
}

func (d *Disk) Rename(name, to string) api.Errno {
	if !isName(to) {
		return api.ErrArg
	}
	f, ok := d.files[name]
	if !ok {
		return api.ErrNone
	}
	// In this order the file also stays if both names are one.
	delete(d.files, name)
	d.put(to, f)
	return api.OK
}

func (d *Disk) Remove(name string) api.Errno {
	if _, ok := d.files[name]; !ok {
		return api.ErrNone
	}
	delete(d.files, name)
	return api.OK
}

// Read is a file's bytes, Size how many, Synced how many are safe; Names all files, rising; Free how many bytes there is room for.
func (d *Disk) Read(name string) (string, api.Errno) {
	f, ok := d.files[name]
	if !ok {
		return "", api.ErrNone
	}
	return string(f.bytes), api.OK
}

func (d *Disk) Size(name string) int { return len(d.files[name].bytes) }

func (d *Disk) Synced(name string) int { return d.files[name].safe }

func (d *Disk) Names() []string { return slices.Sorted(maps.Keys(d.files)) }

func (d *Disk) Free() int {
	free := d.size
	for _, f := range d.files {
		free -= len(f.bytes)
	}
	return free
}

// Crash loses what is not synced, but for some of it.
func (d *Disk) Crash(keep []int) {
	i := 0
	for _, name := range d.Names() {
		f := d.files[name]
		loose := len(f.bytes) - f.safe
		if loose == 0 {
			continue
		}
		left := f.safe + kept(keep, i, loose)
		d.put(name, file{bytes: copied(f.bytes[:left]), safe: left})
		i++
	}
}

// Clone is a copy of its own.
func (d *Disk) Clone() *Disk {
	c := &Disk{size: d.size}
	for name, f := range d.files {
		c.put(name, file{bytes: copied(f.bytes), safe: f.safe})
	}
	return c
}

// admit is why a file of that name may neither be there nor be made; OK: it may.
func (d *Disk) admit(name string) api.Errno {
	if !isName(name) {
		return api.ErrArg
	}
	if _, ok := d.files[name]; !ok && len(d.files) >= api.MaxFiles {
		return api.ErrMany
	}
	return api.OK
}

// put also serves a disk that New did not make, which has no map yet.
func (d *Disk) put(name string, f file) {
	if d.files == nil {
		d.files = map[string]file{}
	}
	d.files[name] = f
}

// kept is how many of so many loose bytes the i-th number of keep leaves.
func kept(keep []int, i, loose int) int {
	if i >= len(keep) {
		return 0
	}
	k := keep[i]
	if k < 0 {
		// Turned, not negated: the lowest int has no opposite.
		k = ^k
	}
	return k % (loose + 1)
}

// copied makes memory of just the length: what was cut off must not be held on to behind it.
func copied(b []byte) []byte { return append([]byte(nil), b...) }

func isName(name string) bool {
	if len(name) < 1 || len(name) > longestName {
		return false
	}
	for i := range len(name) {
		if !isNameByte(name[i]) {
			return false
		}
	}
	return true
}

func isNameByte(c byte) bool {
	return 'a' <= c && c <= 'z' || '0' <= c && c <= '9' || c == '-' || c == '.'
}
