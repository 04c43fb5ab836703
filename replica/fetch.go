package replica

import "logboom/api"

// mostBytes is how many bytes the batches of an answer have at most, but for a first one that has more.
const mostBytes = 16384

// write appends a batch. It is safe ahead of being counted as what the leader has.
func (x *Leader) write(b api.Batch) (int, api.Errno) {
	at, e := x.kept().Append(b)
	if e != api.OK {
		return 0, e
	}
	if e := x.kept().Sync(); e != api.OK {
		return 0, e
	}
	x.advance()
	return at, api.OK
}

// admit is why a request is none that a follower of this leader may have made; OK: it is one.
func (x *Leader) admit(m api.Msg) api.Errno {
	switch {
	case m.Kind != api.FetchAsk || m.Part != x.part.Id || !x.isOther(m.From) || m.Offset < 0 || m.Start < 0 || m.Last < none:
		return api.ErrArg
	case m.Epoch < x.part.Epoch:
		return api.ErrFenced
	case m.Epoch > x.part.Epoch:
		return api.ErrNewer
	}
	return api.OK
}

// hasGone tells whether what the follower would have next is deleted here, or all of the epochs up to its last one.
func (x *Leader) hasGone(m api.Msg) bool {
	if m.Offset < x.start() {
		return true
	}
	last, _ := x.kept().Cache().End(m.Last, x.end())
	return m.Last != none && last == none
}

// parts tells whether the follower's log is no beginning of this one: then with it the last epoch up to which it may be, and where that ends here.
func (x *Leader) parts(m api.Msg) (int, int, bool) {
	if m.Last != none {
		last, end := x.kept().Cache().End(m.Last, x.end())
		if last != m.Last || end < m.Offset {
			return last, end, true
		}
	}
	if m.Offset > x.end() {
		return none, x.end(), true
	}
	return 0, 0, false
}

// hear notes what a follower tells of itself by its request.
func (x *Leader) hear(now int, m api.Msg) {
	p := &x.others[m.From]
	p.offset, p.start, p.seen = m.Offset, m.Start, max(p.seen, m.Seq)
	if m.Offset == x.end() {
		p.up = now
	}
	x.advance()
	if m.Start > x.start() && m.Start <= x.high {
		// An error is passed over: it is the follower's request, and it comes again.
		x.kept().Delete(m.Start)
	}
}

// batches are what a follower gets from an offset on.
func (x *Leader) batches(offset int) []api.Batch {
	list, _ := x.kept().Log().Read(offset, mostBytes)
	return list[:min(len(list), api.MaxBatch)]
}

// isOpen tells whether a batch is not committed yet.
func (x *Leader) isOpen(b api.Batch) bool { return b.Base+len(b.Records) > x.high }
