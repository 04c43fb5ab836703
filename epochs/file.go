package epochs

import (
	"slices"

	"logboom/api"
	"logboom/disk"
	"logboom/pieces"
)

// disk also serves a cache that Open did not make: its disk has no room.
func (c *Cache) disk() *disk.Disk {
	if c.d == nil {
		return &disk.Disk{}
	}
	return c.d
}

// keep has the entries be these, in the file first: if the disk refuses them, all stays as it was.
func (c *Cache) keep(list []entry) api.Errno {
	if slices.Equal(list, c.list) {
		return api.OK
	}
	e := c.disk().Replace(c.name, text(list))
	if e == api.OK {
		c.list = list
	}
	return e
}

// text is what the file has of entries.
func text(list []entry) string {
	rest := pieces.AppendInts(nil, len(list))
	for _, x := range list {
		rest = pieces.AppendInts(rest, x.epoch, x.offset)
	}
	return pieces.Seal(string(rest))
}

// load has the entries be those of the file, if there is one.
func (c *Cache) load() api.Errno {
	file, e := c.disk().Read(c.name)
	if e != api.OK {
		return api.OK
	}
	rest, e := pieces.Unseal(file)
	if e != api.OK {
		return e
	}
	r := pieces.Read(rest)
	var list []entry
	for range r.Count(mostEntries) {
		list = append(list, entry{epoch: r.Int(), offset: r.Int()})
	}
	if !r.Done() || !rise(list) {
		return api.ErrForm
	}
	c.list = list
	return api.OK
}

// rise tells whether entries may be a cache's.
func rise(list []entry) bool {
	ahead := entry{-1, -1}
	for _, x := range list {
		if x.epoch <= ahead.epoch || x.offset <= ahead.offset || !isNumber(x.epoch) || !isNumber(x.offset) {
			return false
		}
		ahead = x
	}
	return true
}
