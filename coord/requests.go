package coord

import (
	"logboom/api"
	"logboom/groups"
	"logboom/replica"
	"logboom/rpc"
	"logboom/wire"
)

// beat is the kind of request that is no record's: a member tells that it is there.
const beat = 7

// tell makes an answer of what came of a request.
type tell func(groups.Told) api.Msg

// answerTo is how a request is answered, whenever that is known. It keeps nothing of the request's lists, which are the client's.
func answerTo(m api.Msg) tell {
	a := rpc.Answer(m, api.OK)
	a.Index = m.Index
	return func(told groups.Told) api.Msg {
		a.Err, a.Pid, a.Seq, a.Offset, a.Ints = told.Err, told.Member, told.Gen, told.Offset, told.Parts
		return a
	}
}

// refuses is why a request is not taken at all; OK: it is.
func (c *Coord) refuses(m api.Msg) api.Errno {
	switch {
	case !isAsked(m.Index) || len(m.Name) > api.MaxName || len(m.Ints) > api.MaxParts:
		return api.ErrArg
	case !c.ready:
		return api.ErrState
	}
	return api.OK
}

// isAsked tells whether clients ask for that kind. That an epoch begins is for coordinators alone to say.
func isAsked(kind int) bool {
	switch kind {
	case groups.Join, groups.Leave, groups.Commit, groups.Read, groups.Sync, beat:
		return true
	}
	return false
}

// recordOf is a request as a record.
func recordOf(m api.Msg) api.Meta {
	return api.Meta{Kind: m.Index, Name: m.Name, A: m.Pid, B: m.Seq, C: m.High, D: m.Offset, List: m.Ints}
}

// write has the log take a record: its offset.
func (c *Coord) write(now int, m api.Meta) (int, api.Errno) {
	value, e := wire.Meta(m)
	if e != api.OK {
		return 0, e
	}
	return c.leader().Produce(now, api.Batch{Records: []api.Record{{Value: value}}})
}

// leader also serves a coordinator that New did not make: it is one over a leader without room.
func (c *Coord) leader() *replica.Leader {
	if c.x == nil {
		c.x = new(replica.Leader)
	}
	return c.x
}

// take goes through a committed batch: the answers to those that waited for its records.
func (c *Coord) take(now int, b api.Batch) []api.Msg {
	var answers []api.Msg
	for i, r := range b.Records {
		told := c.apply(now, r.Value)
		at := b.Base + i
		if answer, ok := c.waiting[at]; ok {
			delete(c.waiting, at)
			answers = append(answers, answer(told))
		}
	}
	c.done = b.Base + len(b.Records)
	return answers
}

// apply applies what is a record: what came of it.
func (c *Coord) apply(now int, value string) groups.Told {
	m, e := wire.ReadMeta(value)
	if e != api.OK {
		return groups.Told{Err: api.ErrForm}
	}
	told := c.groups.Apply(m)
	switch {
	case m.Kind == groups.Join && told.Err == api.OK:
		c.see(now, seat{m.Name, told.Member})
	case m.Kind == groups.Leave:
		delete(c.stays, seat{m.Name, m.A})
	case m.Kind == groups.Epoch && m.A == c.epoch && !c.ready:
		c.ready = true
		c.seeAll(now)
	}
	return told
}
