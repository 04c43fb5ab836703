package broker

import (
	"slices"

	"logboom/api"
	"logboom/meta"
	"logboom/rpc"
	"logboom/wire"
)

// control is what a broker knows as the controller.
type control struct {
	term    int                     // in which duties were done last
	heard   [api.MaxBrokers + 1]int // when each broker was heard of
	errands map[errand]int          // when each was proposed last
	wishes  []wish                  // in the order in which they came
}

// doing is what comes of what a broker tells: messages, an error.
type doing func(int, api.Msg) ([]api.Msg, api.Errno)

// errand is what the controller proposes by itself: a kind of record, of a broker or of a partition.
type errand struct{ kind, id int }

// wish is a client's: an entry was proposed of it.
type wish struct {
	index, term int
	answer      api.Msg // if all goes well
}

// ofController is what a kind of message does that is for the controller alone.
func (b *Broker) ofController(k int) func(int, api.Msg) []api.Msg {
	switch {
	case !b.Controls():
		return b.toController
	case k == api.BeatAsk:
		return b.beatAsk
	case k == api.AlterAsk:
		return b.alterAsk
	}
	return b.adminAsk
}

// toController tells who the controller is.
func (b *Broker) toController(now int, m api.Msg) []api.Msg {
	return refer(m, api.ErrLeader, b.node.Leader())
}

// ofBroker is what a broker tells: what it does, and at once the answer.
func (b *Broker) ofBroker(now int, m api.Msg, does doing) []api.Msg {
	list, e := does(now, m)
	return append(list, rpc.Answer(m, e))
}

func (b *Broker) beatAsk(now int, m api.Msg) []api.Msg { return b.ofBroker(now, m, b.hear) }

func (b *Broker) alterAsk(now int, m api.Msg) []api.Msg { return b.ofBroker(now, m, b.alter) }

// adminAsk answers when it is known what came of the entry.
func (b *Broker) adminAsk(now int, m api.Msg) []api.Msg {
	switch m.Index {
	case meta.Topic, meta.Move, meta.Stay, meta.Prefer, meta.Pid:
	default:
		return refuse(m, api.ErrArg)
	}
	index, list, e := b.propose(now, api.Meta{Kind: m.Index, Name: m.Name, A: m.High, B: m.Seq, C: m.Pid, List: m.Ints})
	if e != api.OK {
		return refuse(m, e)
	}
	b.control.wishes = append(b.control.wishes, wish{index, b.node.Term(), rpc.Answer(m, api.OK)})
	return list
}

// propose has a record of metadata be agreed on: its index, and what is to be sent.
func (b *Broker) propose(now int, r api.Meta) (int, []api.Msg, api.Errno) {
	data, e := wire.Meta(r)
	if e != api.OK {
		return 0, nil, e
	}
	return b.node.Propose(now, data)
}

// tries proposes what the controller wants by itself, unless it did so a short time ago. An error is passed over: it is tried again.
func (b *Broker) tries(now int, r api.Meta) []api.Msg {
	x := errand{r.Kind, r.A}
	if at, ok := b.control.errands[x]; ok && now-at < b.config.Beat {
		return nil
	}
	b.control.errands[x] = now
	_, list, _ := b.propose(now, r)
	return list
}

// hear takes a broker's heartbeat: a life that is new is registered, one that is known, but not up, is up again.
func (b *Broker) hear(now int, m api.Msg) ([]api.Msg, api.Errno) {
	if isBroker(m.From) {
		b.control.heard[m.From] = now
	}
	life, _ := b.image.Life(m.From)
	switch {
	case life < m.Index:
		return b.tries(now, api.Meta{Kind: meta.Register, A: m.From, B: m.Index}), api.OK
	case life == m.Index && !has(b.image.Up(), m.From):
		return b.tries(now, api.Meta{Kind: meta.Unfence, A: m.From, B: m.Index}), api.OK
	}
	return nil, api.OK
}

// alter takes a leader's wish for another in-sync set.
func (b *Broker) alter(now int, m api.Msg) ([]api.Msg, api.Errno) {
	_, list, e := b.propose(now, api.Meta{Kind: meta.Alter, A: m.Part, B: m.From, C: m.Epoch, D: m.Offset, List: m.Ints})
	return list, e
}

// duties are what the controller does unasked: brokers that are silent are fenced, moves that are done are finished.
func (b *Broker) duties(now int) []api.Msg {
	c := &b.control
	if term := b.node.Term(); term != c.term {
		c.term = term
		// Of what they told the controller ahead of this one nothing is known.
		for id := range c.heard {
			c.heard[id] = now
		}
	}
	var list []api.Msg
	for _, id := range b.image.Up() {
		if now-c.heard[id] >= b.config.Session {
			life, _ := b.image.Life(id)
			list = append(list, b.tries(now, api.Meta{Kind: meta.Fence, A: id, B: life})...)
		}
	}
	for _, p := range b.image.Parts() {
		if isMoved(p) {
			list = append(list, b.tries(now, api.Meta{Kind: meta.Done, A: p.Id})...)
		}
	}
	return list
}

// isMoved tells whether a move is open, and all its targets are in sync.
func isMoved(p api.Part) bool {
	if len(p.Adding) == 0 && len(p.Removing) == 0 {
		return false
	}
	return !slices.ContainsFunc(p.Replicas, func(id int) bool { return !has(p.Removing, id) && !has(p.Isr, id) })
}

// beats has the controller know that the broker lives, and what its leaders wish; and keeps how far partitions are committed.
func (b *Broker) beats(now int) []api.Msg {
	var list []api.Msg
	if b.node.Leader() != 0 {
		list = b.report(now)
	}
	b.saveHighs()
	return list
}

func (b *Broker) report(now int) []api.Msg {
	list := b.tell(now, api.Msg{Kind: api.BeatAsk, From: b.id, Index: b.life}, b.hear)
	for _, h := range b.homes {
		if h.leader == nil {
			continue
		}
		if m, ok := h.leader.Wish(now); ok {
			list = append(list, b.tell(now, m, b.alter)...)
		}
	}
	return list
}

// tell is for the controller; what the broker would tell itself it does at once.
func (b *Broker) tell(now int, m api.Msg, does doing) []api.Msg {
	if b.Controls() {
		list, _ := does(now, m)
		return list
	}
	m.To = b.node.Leader()
	return []api.Msg{m}
}
