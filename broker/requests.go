package broker

import (
	"logboom/api"
	"logboom/replica"
	"logboom/rpc"
)

// request is a client's that waits.
type request struct {
	answer api.Msg // what it is told in the end, if nothing comes between
	part   int
	epoch  int // of the leader that it was begun with
	until  int // what the leader is to come to: a high watermark, a turn, an offset
}

// wait has a request be answered later on.
func (b *Broker) wait(m api.Msg, x *replica.Leader, offset, until int) {
	a := rpc.Answer(m, api.OK)
	a.Offset = offset
	b.waiting = append(b.waiting, request{answer: a, part: m.Part, epoch: x.Part().Epoch, until: until})
}

func (b *Broker) produceAsk(now int, m api.Msg) []api.Msg {
	x := b.homes.of(m.Part).leader
	switch {
	case len(m.Batches) != 1 || m.Part == api.Offsets:
		return refuse(m, api.ErrArg)
	case x == nil:
		return refer(m, api.ErrLeader, b.leaderOf(m.Part))
	}
	if e := isKnown(m.Epoch, x.Part().Epoch); e != api.OK {
		return refuse(m, e)
	}
	at, e := x.Produce(now, m.Batches[0])
	if e != api.OK {
		return refuse(m, e)
	}
	b.wait(m, x, at, at+len(m.Batches[0].Records))
	return nil
}

// isKnown holds the epoch that a client knows against the leader's; 0: it does not care.
func isKnown(epoch, leaders int) api.Errno {
	switch {
	case epoch == 0 || epoch == leaders:
		return api.OK
	case epoch < leaders:
		return api.ErrFenced
	}
	return api.ErrNewer
}

// readAsk waits for a turn: a leader that was put off, and does not know it, would tell what is not so any more.
func (b *Broker) readAsk(now int, m api.Msg) []api.Msg {
	x := b.homes.of(m.Part).leader
	switch {
	case m.Part == api.Offsets:
		return refuse(m, api.ErrArg)
	case x == nil:
		return refer(m, api.ErrLeader, b.leaderOf(m.Part))
	}
	b.wait(m, x, m.Offset, x.Turn())
	return nil
}

func (b *Broker) deleteAsk(now int, m api.Msg) []api.Msg {
	x := b.homes.of(m.Part).leader
	switch {
	case x == nil:
		return refer(m, api.ErrLeader, b.leaderOf(m.Part))
	case m.Part == api.Offsets:
		return refuse(m, api.ErrArg)
	}
	if e := x.Delete(m.Offset); e != api.OK {
		return refuse(m, e)
	}
	b.wait(m, x, m.Offset, m.Offset)
	return nil
}

// goOn answers those requests for which what they wait for has come.
func (b *Broker) goOn() []api.Msg {
	var list []api.Msg
	var left []request
	for _, r := range b.waiting {
		if a, done := r.answered(b.homes[r.part].leader); done {
			list = append(list, a)
		} else {
			left = append(left, r)
		}
	}
	b.waiting = left
	return list
}

// answered is the answer to a request, and whether it can be given.
func (r request) answered(x *replica.Leader) (api.Msg, bool) {
	switch {
	case x == nil || x.Part().Epoch != r.epoch:
		return r.failed(api.ErrLeader), true
	case !r.isDone(x):
		return api.Msg{}, false
	case r.answer.Kind == api.ReadTell:
		return r.read(x), true
	}
	return r.answer, true
}

// isDone tells whether a leader has come to what a request waits for.
func (r request) isDone(x *replica.Leader) bool {
	switch r.answer.Kind {
	case api.ProduceTell:
		return x.High() >= r.until
	case api.ReadTell:
		return x.Turned(r.until)
	}
	return x.Deleted() >= r.until
}

// failed is an answer with an error: it tells nothing else.
func (r request) failed(e api.Errno) api.Msg {
	a := r.answer
	a.Err, a.Offset = e, 0
	return a
}

// read is the answer of what there is now.
func (r request) read(x *replica.Leader) api.Msg {
	a := r.answer
	list, e := x.Read(a.Offset, 1)
	if e != api.OK {
		return r.failed(e)
	}
	a.Batches, a.High, a.Start = list, x.High(), x.Store().Log().Start()
	return a
}
