package replica

import (
	"slices"

	"logboom/api"
	"logboom/reassign"
	"logboom/store"
)

// Leader is a partition's leader.
type Leader struct {
	side
	lag, born, turn int
	others          peers
	wish            []int // an in-sync set that was asked for; nobody in it: there is none
}

// Lead makes one: its broker, what it keeps, the partition's state, time; a follower that is behind for so long is too late.
func Lead(me int, s *store.Store, p api.Part, now, lag int) (*Leader, api.Errno) {
	if !reassign.Right(p) || p.Leader != me || me < 1 || lag < 1 || lag > api.MaxTick {
		return nil, api.ErrArg
	}
	made, e := newSide(me, s, p)
	if e != api.OK {
		return nil, e
	}
	x := &Leader{side: made, lag: lag}
	x.born = x.end()
	x.others = x.others.as(nil, p.Replicas, now)
	x.advance()
	return x, api.OK
}

// Learn learns a newer state of the same epoch.
func (x *Leader) Learn(p api.Part, now int) api.Errno {
	switch {
	case !reassign.Right(p) || p.Id != x.part.Id || p.Leader != x.me:
		return api.ErrArg
	case p.Epoch < x.part.Epoch || p.Epoch == x.part.Epoch && p.Version < x.part.Version:
		return api.ErrFenced
	case p.Epoch > x.part.Epoch:
		return api.ErrNewer
	case p.Version == x.part.Version:
		return api.OK
	}
	x.others = x.others.as(x.part.Replicas, p.Replicas, now)
	x.part = reassign.Clone(p)
	x.wish = nil
	x.advance()
	return api.OK
}

// Part is the state that it knows, High the high watermark, Deleted how far all in sync have deleted, Born the log's end when it began, Store what it keeps.
func (x *Leader) Part() api.Part { return reassign.Clone(x.part) }

func (x *Leader) High() int { return x.high }

func (x *Leader) Deleted() int { return x.least(x.start(), peer.hasStart) }

func (x *Leader) Born() int { return x.born }

func (x *Leader) Store() *store.Store { return x.kept() }

// Produce appends a batch: its offset (of one that is there already: that).
func (x *Leader) Produce(now int, b api.Batch) (int, api.Errno) {
	if len(x.part.Isr) < x.part.Min {
		return 0, api.ErrInsync
	}
	at, e := x.kept().Table().Ask(b.Pid, b.PidEpoch, b.Seq, len(b.Records))
	if e != api.OK {
		return 0, e
	}
	if at != none {
		return at, api.OK
	}
	b.Epoch = x.part.Epoch
	return x.write(b)
}

// Fetch answers a follower's request.
func (x *Leader) Fetch(now int, m api.Msg) api.Msg {
	a := api.Msg{Kind: api.FetchTell, From: m.To, To: m.From, Id: m.Id, Part: m.Part, Epoch: x.part.Epoch, Pid: m.Pid, PidEpoch: m.PidEpoch}
	if a.Err = x.admit(m); a.Err != api.OK {
		return a
	}
	if x.hasGone(m) {
		a.Err = api.ErrRange
		a.Start, a.Text = x.start(), x.kept().Table().Keep()
		return a
	}
	if last, end, apart := x.parts(m); apart {
		a.Err = api.ErrOrder
		a.Last, a.Index = last, end
		return a
	}
	x.hear(now, m)
	a.High, a.Start, a.Index = x.high, x.start(), x.turn
	a.Batches = x.batches(m.Offset)
	return a
}

// Read answers a consumer: what is committed alone.
func (x *Leader) Read(offset, most int) ([]api.Batch, api.Errno) {
	if offset < x.start() || offset > x.high {
		return nil, api.ErrRange
	}
	list, e := x.kept().Log().Read(offset, most)
	return slices.DeleteFunc(list, x.isOpen), e
}

// Delete deletes what is ahead of an offset.
func (x *Leader) Delete(offset int) api.Errno {
	if offset > x.high {
		return api.ErrRange
	}
	return x.kept().Delete(offset)
}

// Turn begins a turn, Turned tells whether all others in sync have seen it.
func (x *Leader) Turn() int {
	x.turn++
	return x.turn
}

func (x *Leader) Turned(turn int) bool { return x.least(turn, peer.hasSeen) == turn }

// Wish is another in-sync set that it wants: false: none.
func (x *Leader) Wish(now int) (api.Msg, bool) {
	if len(x.wish) == 0 {
		x.wish = x.wanted(now)
	}
	if len(x.wish) == 0 {
		return api.Msg{}, false
	}
	return api.Msg{
		Kind: api.AlterAsk, From: x.me, Part: x.part.Id, Epoch: x.part.Epoch,
		Offset: x.part.Version, Ints: slices.Clone(x.wish),
	}, true
}
