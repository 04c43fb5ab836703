package replica_test

import (
	"slices"

	"logboom/api"
	"logboom/reassign"
	"logboom/store"
)

// paperLeader is the chapter's leader as plainly as it can be written, over a store of its own: the walks hold the leader against it.
type paperLeader struct {
	me, lag                     int
	s                           *store.Store
	p                           api.Part
	high, born, turn            int
	offset, start, seen, lastUp map[int]int
	wish                        []int
	wished                      bool
}

func newPaperLeader(me int, s *store.Store, p api.Part, now, lag int) (*paperLeader, api.Errno) {
	if !reassign.Right(p) || p.Leader != me || me < 1 || lag < 1 || lag > 1000000000 {
		return nil, api.ErrArg
	}
	if e := s.Sync(); e != api.OK {
		return nil, e
	}
	x := &paperLeader{me: me, lag: lag, s: s, p: reassign.Clone(p), offset: map[int]int{}, start: map[int]int{}, seen: map[int]int{}, lastUp: map[int]int{}}
	x.high = s.Log().Saved()
	if x.high > s.Log().Next() {
		x.high = s.Log().Next()
	}
	if x.high < s.Log().Start() {
		x.high = s.Log().Start()
	}
	x.born = s.Log().Next()
	for _, id := range p.Replicas {
		x.meet(id, now)
	}
	x.advance()
	return x, api.OK
}

func (x *paperLeader) meet(id, now int) {
	if _, ok := x.offset[id]; !ok && id != x.me {
		x.offset[id], x.start[id], x.seen[id], x.lastUp[id] = -1, -1, 0, now
	}
}

// others are those of the maximal set without the leader.
func (x *paperLeader) others() []int {
	set := slices.Clone(x.p.Isr)
	if x.wished {
		set = append(set, x.wish...)
	}
	return slices.DeleteFunc(set, func(id int) bool { return id == x.me })
}

func (x *paperLeader) advance() {
	least := x.s.Log().Safe()
	for _, id := range x.others() {
		if x.offset[id] == -1 {
			return
		}
		if x.offset[id] < least {
			least = x.offset[id]
		}
	}
	if least > x.high {
		x.high = least
	}
}

func (x *paperLeader) learn(p api.Part, now int) api.Errno {
	if !reassign.Right(p) || p.Id != x.p.Id || p.Leader != x.me {
		return api.ErrArg
	}
	if p.Epoch < x.p.Epoch || p.Epoch == x.p.Epoch && p.Version < x.p.Version {
		return api.ErrFenced
	}
	if p.Epoch > x.p.Epoch {
		return api.ErrNewer
	}
	if p.Version > x.p.Version {
		x.p = reassign.Clone(p)
		x.wish, x.wished = nil, false
		for _, id := range p.Replicas {
			x.meet(id, now)
		}
		for id := 1; id <= 7; id++ {
			if !slices.Contains(p.Replicas, id) {
				delete(x.offset, id)
				delete(x.start, id)
				delete(x.seen, id)
				delete(x.lastUp, id)
			}
		}
		x.advance()
	}
	return api.OK
}

func (x *paperLeader) deleted() int {
	least := x.s.Log().Start()
	for _, id := range x.others() {
		if x.start[id] == -1 {
			return -1
		}
		least = min(least, x.start[id])
	}
	return least
}

func (x *paperLeader) turned(turn int) bool {
	for _, id := range x.others() {
		if x.seen[id] < turn {
			return false
		}
	}
	return true
}

func (x *paperLeader) produce(b api.Batch) (int, api.Errno) {
	if len(x.p.Isr) < x.p.Min {
		return 0, api.ErrInsync
	}
	n, e := x.s.Table().Ask(b.Pid, b.PidEpoch, b.Seq, len(b.Records))
	if e != api.OK {
		return 0, e
	}
	if n >= 0 {
		return n, api.OK
	}
	b.Epoch = x.p.Epoch
	n, e = x.s.Append(b)
	if e != api.OK {
		return 0, e
	}
	if e := x.s.Sync(); e != api.OK {
		return 0, e
	}
	x.advance()
	return n, api.OK
}

func (x *paperLeader) fetch(now int, m api.Msg) api.Msg {
	a := api.Msg{Kind: 8, From: m.To, To: m.From, Id: m.Id, Part: m.Part, Pid: m.Pid, PidEpoch: m.PidEpoch, Epoch: x.p.Epoch}
	log := x.s.Log()
	_, other := x.offset[m.From]
	if m.Kind != 7 || m.Part != x.p.Id || !other || m.Offset < 0 || m.Start < 0 || m.Last < -1 {
		a.Err = api.ErrArg
		return a
	}
	if m.Epoch != x.p.Epoch {
		a.Err = api.ErrNewer
		if m.Epoch < x.p.Epoch {
			a.Err = api.ErrFenced
		}
		return a
	}
	e, end := x.s.Cache().End(m.Last, log.Next())
	if m.Offset < log.Start() || m.Last != -1 && e == -1 {
		a.Err, a.Start, a.Text = api.ErrRange, log.Start(), x.s.Table().Keep()
		return a
	}
	if m.Last != -1 && (e != m.Last || end < m.Offset) {
		a.Err, a.Last, a.Index = api.ErrOrder, e, end
		return a
	}
	if m.Offset > log.Next() {
		a.Err, a.Last, a.Index = api.ErrOrder, -1, log.Next()
		return a
	}
	x.offset[m.From], x.start[m.From] = m.Offset, m.Start
	if m.Seq > x.seen[m.From] {
		x.seen[m.From] = m.Seq
	}
	if m.Offset == log.Next() {
		x.lastUp[m.From] = now
	}
	x.advance()
	if m.Start > log.Start() && m.Start <= x.high {
		x.s.Delete(m.Start)
	}
	a.High, a.Start, a.Index = x.high, log.Start(), x.turn
	a.Batches, _ = log.Read(m.Offset, 16384)
	if len(a.Batches) > 64 {
		a.Batches = a.Batches[:64]
	}
	return a
}

func (x *paperLeader) read(offset, most int) ([]api.Batch, api.Errno) {
	if offset < x.s.Log().Start() || offset > x.high {
		return nil, api.ErrRange
	}
	var list []api.Batch
	all, _ := x.s.Log().Read(offset, most)
	for _, b := range all {
		if end(b) <= x.high {
			list = append(list, b)
		}
	}
	return list, api.OK
}

func (x *paperLeader) delete(offset int) api.Errno {
	if offset > x.high {
		return api.ErrRange
	}
	return x.s.Delete(offset)
}

func (x *paperLeader) wants(now int) (api.Msg, bool) {
	if !x.wished {
		var w []int
		for _, id := range x.p.Replicas {
			if slices.Contains(x.p.Isr, id) {
				if id == x.me || now-x.lastUp[id] < x.lag {
					w = append(w, id)
				}
			} else if x.offset[id] >= x.high && x.offset[id] >= x.born && x.start[id] == x.s.Log().Start() {
				w = append(w, id)
			}
		}
		isr := slices.Sorted(slices.Values(x.p.Isr))
		if slices.Equal(slices.Sorted(slices.Values(w)), isr) {
			return api.Msg{}, false
		}
		x.wish, x.wished = w, true
	}
	return api.Msg{Kind: 13, From: x.me, Part: x.p.Id, Epoch: x.p.Epoch, Offset: x.p.Version, Ints: x.wish}, true
}

// paperFollower is the chapter's follower likewise.
type paperFollower struct {
	me, life, made   int
	s                *store.Store
	p                api.Part
	high, seen       int
	number, waitsFor int // -1: none is waited for
}

func newPaperFollower(me int, s *store.Store, p api.Part, life, made int) (*paperFollower, api.Errno) {
	if !reassign.Right(p) || !slices.Contains(p.Replicas, me) || p.Leader == me || life < 1 || life > 1000000000 || made < 1 || made > 1000000000 {
		return nil, api.ErrArg
	}
	if e := s.Sync(); e != api.OK {
		return nil, e
	}
	high := max(min(s.Log().Saved(), s.Log().Next()), s.Log().Start())
	return &paperFollower{me: me, life: life, made: made, s: s, p: reassign.Clone(p), high: high, waitsFor: -1}, api.OK
}

func (x *paperFollower) ask() api.Msg {
	x.number++
	x.waitsFor = x.number
	return api.Msg{
		Kind: 7, From: x.me, To: x.p.Leader, Id: x.number, Pid: x.life, PidEpoch: x.made, Part: x.p.Id, Epoch: x.p.Epoch,
		Offset: x.s.Log().Next(), Last: x.s.Cache().Last(), Start: x.s.Log().Start(), Seq: x.seen,
	}
}

func (x *paperFollower) take(m api.Msg) api.Errno {
	if m.Kind != 8 || m.From != x.p.Leader || m.Part != x.p.Id || m.Epoch != x.p.Epoch || m.Pid != x.life || m.PidEpoch != x.made || x.waitsFor == -1 || m.Id != x.waitsFor {
		return api.ErrState
	}
	x.waitsFor = -1
	log := x.s.Log()
	if m.Err == api.OK {
		var e api.Errno
		x.seen = m.Index
		for _, b := range m.Batches {
			if e = x.s.Take(b); e != api.OK {
				break
			}
		}
		if e2 := x.s.Sync(); e == api.OK {
			e = e2
		}
		if m.Start > log.Start() && m.Start <= log.Next() {
			x.s.Delete(m.Start)
		}
		if h := min(m.High, log.Safe()); h > x.high {
			x.high = h
		}
		return e
	}
	if m.Err == api.ErrRange {
		if e := x.s.Begin(m.Start, m.Text); e != api.OK {
			return e
		}
		x.high = m.Start
		return api.OK
	}
	if m.Err == api.ErrOrder {
		e, ends := x.s.Cache().End(m.Last, log.Next())
		end := log.Start()
		if m.Last != -1 && e != -1 {
			end = min(ends, m.Index)
		} else if m.Last == -1 {
			end = m.Index
		}
		end = max(end, log.Start())
		end = min(end, log.Next())
		if e := x.s.Cut(end); e != api.OK {
			return e
		}
		x.high = min(x.high, log.Next())
		return api.OK
	}
	return m.Err
}
