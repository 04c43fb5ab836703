package segment

import (
	"sort"

	"logboom/api"
	"logboom/wire"
)

// indexStep is how far apart at least the batches begin that stand in the index.
const indexStep = 256

// mark is where a batch begins, or would: its Base, its place in the file, how many batches are ahead of it. One batch's end is the next one's mark.
type mark struct{ base, at, nth int }

// behind is the end of a batch of so many bytes that begins at m.
func (m mark) behind(b api.Batch, size int) mark {
	return mark{base: m.base + len(b.Records), at: m.at + size, nth: m.nth + 1}
}

// cursor is a mark, and the file's bytes from there on.
type cursor struct {
	mark
	rest string
}

// step reads the batch at c: it, and the cursor behind it. False: no batch stands there that may be the segment's.
func (c cursor) step() (api.Batch, cursor, bool) {
	b, size, e := wire.ReadBatch(c.rest)
	if e != api.OK || b.Base != c.base {
		return api.Batch{}, c, false
	}
	end := c.behind(b, size)
	if end.base > api.MaxOffset || end.nth > api.MaxLog {
		return api.Batch{}, c, false
	}
	return b, cursor{end, c.rest[size:]}, true
}

// load takes the batches that the file begins with: how many bytes are behind them.
func (s *Segment) load() int {
	file, _ := s.disk().Read(s.name)
	c := cursor{s.end, file}
	for {
		_, to, ok := c.step()
		if !ok {
			return len(c.rest)
		}
		s.add(to.mark)
		c = to
	}
}

// add has one more batch stand in the segment, from its end to another.
func (s *Segment) add(end mark) {
	last := len(s.index) - 1
	if last < 0 || s.end.at-s.index[last].at >= indexStep {
		s.index = append(s.index, s.end)
	}
	s.end = end
}

// seek is the cursor at the first batch whose end is beyond, or at the segment's end. If one batch's end is beyond, all behind it must be so: then halving finds the place in the index, and few steps lead on from there.
func (s *Segment) seek(beyond func(end mark) bool) cursor {
	if !beyond(s.end) {
		return cursor{mark: s.end}
	}
	from := mark{base: s.base}
	if i := sort.Search(len(s.index), func(i int) bool { return beyond(s.index[i]) }); i > 0 {
		from = s.index[i-1]
	}
	file, _ := s.disk().Read(s.name)
	c := cursor{from, file[min(from.at, len(file)):]}
	for {
		_, to, ok := c.step()
		if !ok || beyond(to.mark) {
			return c
		}
		c = to
	}
}
