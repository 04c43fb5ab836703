package replica

import (
	"slices"

	"logboom/api"
	"logboom/reassign"
	"logboom/store"
)

// Follower is a partition's follower.
type Follower struct {
	side
	life, made int
	number     int  // of what it asked last
	waits      bool // for the answer to that
	seen       int  // the turn that its leader told last
}

// Follow makes one, in a life of its broker, the made-th there.
func Follow(me int, s *store.Store, p api.Part, life, made int) (*Follower, api.Errno) {
	if !reassign.Right(p) || !slices.Contains(p.Replicas, me) || p.Leader == me || !isCount(life) || !isCount(made) {
		return nil, api.ErrArg
	}
	begun, e := newSide(me, s, p)
	if e != api.OK {
		return nil, e
	}
	return &Follower{side: begun, life: life, made: made}, api.OK
}

// Part is the state that it knows; Ask what it asks its leader; Take what it makes of an answer; High the high watermark that it knows; Store what it keeps.
func (x *Follower) Part() api.Part { return reassign.Clone(x.part) }

func (x *Follower) Ask() api.Msg {
	x.number++
	if x.number > api.MaxOffset {
		x.number = 0
	}
	x.waits = true
	return api.Msg{
		Kind: api.FetchAsk, From: x.me, To: x.part.Leader, Id: x.number, Pid: x.life, PidEpoch: x.made,
		Part: x.part.Id, Epoch: x.part.Epoch,
		Offset: x.end(), Last: x.kept().Cache().Last(), Start: x.start(), Seq: x.seen,
	}
}

func (x *Follower) Take(m api.Msg) api.Errno {
	if !x.waitsFor(m) {
		return api.ErrState
	}
	x.waits = false
	return x.does(m.Err)(m)
}

func (x *Follower) High() int { return x.high }

func (x *Follower) Store() *store.Store { return x.kept() }

func isCount(n int) bool { return n >= 1 && n <= api.MaxOffset }

// waitsFor tells whether a message is the answer to what this follower asked last, and not taken yet.
func (x *Follower) waitsFor(m api.Msg) bool {
	return x.waits && m.Kind == api.FetchTell && m.From == x.part.Leader && m.Part == x.part.Id && m.Epoch == x.part.Epoch &&
		m.Pid == x.life && m.PidEpoch == x.made && m.Id == x.number
}

// does is what an answer does to the follower, by its Err.
func (x *Follower) does(e api.Errno) func(api.Msg) api.Errno {
	switch e {
	case api.OK:
		return x.goOn
	case api.ErrRange:
		return x.beginAnew
	case api.ErrOrder:
		return x.cutBack
	}
	return x.refused
}

// goOn takes batches. Whatever ends them: what was taken is to be safe ahead of the next Ask, which tells the leader of it.
func (x *Follower) goOn(m api.Msg) api.Errno {
	x.seen = m.Index
	e := x.takeAll(m.Batches)
	if synced := x.kept().Sync(); e == api.OK {
		e = synced
	}
	if m.Start > x.start() && m.Start <= x.end() {
		// An error is passed over: the leader tells its start again.
		x.kept().Delete(m.Start)
	}
	x.high = max(x.high, min(m.High, x.kept().Log().Safe()))
	return e
}

func (x *Follower) takeAll(list []api.Batch) api.Errno {
	for _, b := range list {
		if e := x.kept().Take(b); e != api.OK {
			return e
		}
	}
	return api.OK
}

// beginAnew is for a log that ends where the leader's has not begun yet.
func (x *Follower) beginAnew(m api.Msg) api.Errno {
	if e := x.kept().Begin(m.Start, m.Text); e != api.OK {
		return e
	}
	x.high = m.Start
	return api.OK
}

// cutBack is for a log that is not a beginning of the leader's.
func (x *Follower) cutBack(m api.Msg) api.Errno {
	if e := x.kept().Cut(x.nearest(x.parting(m))); e != api.OK {
		return e
	}
	x.high = min(x.high, x.end())
	return api.OK
}

// parting is up to where the log may be the leader's: the last epoch that both may have ends there on one side.
func (x *Follower) parting(m api.Msg) int {
	if m.Last == none {
		return m.Index
	}
	if last, end := x.kept().Cache().End(m.Last, x.end()); last != none {
		return min(end, m.Index)
	}
	return x.start()
}

func (x *Follower) refused(m api.Msg) api.Errno { return m.Err }
