package broker_test

import (
	"slices"
	"testing"

	"logboom/api"
	"logboom/broker"
	"logboom/disk"
	"logboom/meta"
	"logboom/wire"
)

// rig is a broker, with all others played by the test.
type rig struct {
	t         *testing.T
	id        int
	b         *broker.Broker
	d         *disk.Disk
	now       int
	term, end int        // of Raft's log
	proposed  []api.Meta // by the last call
}

func rigged(t *testing.T, id int, c broker.Config, life int) *rig {
	t.Helper()
	r := &rig{t: t, id: id, d: newDisk(t, 1000000)}
	r.begin(c, life)
	return r
}

// begin has the broker begin anew on its disk.
func (r *rig) begin(c broker.Config, life int) {
	r.t.Helper()
	var e api.Errno
	r.b, e = broker.New(r.id, c, r.d, life, r.now)
	must(r.t, e)
}

// keep notes what was proposed.
func (r *rig) keep(list []api.Msg) []api.Msg {
	r.proposed = nil
	for _, m := range list {
		for _, x := range m.Entries {
			if x.Index > r.end {
				r.end = x.Index
				if p, e := wire.ReadMeta(x.Data); e == api.OK {
					r.proposed = append(r.proposed, p)
				}
			}
		}
	}
	return list
}

func (r *rig) tick(now int) []api.Msg {
	r.now = now
	return r.keep(r.b.Tick(now, 0))
}

func (r *rig) step(m api.Msg) []api.Msg {
	m.To = r.id
	return r.keep(r.b.Step(r.now, m))
}

// client is a request as a client asks it.
func client(m api.Msg) api.Msg {
	m.From, m.Id = 101, 7
	return m
}

// ask is what a client is told at once.
func (r *rig) ask(m api.Msg) api.Msg {
	r.t.Helper()
	list := r.step(client(m))
	if len(list) != 1 {
		r.t.Fatalf("to\n%sit told\n%s", show([]api.Msg{m}), show(list))
	}
	return list[0]
}

// tells is an answer to a client's request.
func (r *rig) tells(kind int, e api.Errno, more api.Msg) api.Msg {
	more.Kind, more.Err = kind, e
	more.From, more.To, more.Id = r.id, 101, 7
	return more
}

// wantMsgs asks that just these were told.
func wantMsgs(t *testing.T, got []api.Msg, want ...api.Msg) {
	t.Helper()
	if !same(got, want) {
		t.Fatalf("told\n%swant\n%s", show(got), show(want))
	}
}

// wantTell asks what a client's request is answered with.
func (r *rig) wantTell(m api.Msg, e api.Errno, more api.Msg) {
	r.t.Helper()
	more.Part = m.Part
	wantMsgs(r.t, l1(r.ask(m)), r.tells(m.Kind+1, e, more))
}

// l1 is a list of one message.
func l1(m api.Msg) []api.Msg { return []api.Msg{m} }

// wantNothing asks that a client's request is not answered yet.
func (r *rig) wantNothing(m api.Msg) {
	r.t.Helper()
	wantMsgs(r.t, r.step(client(m)))
}

// alone is the broker of the document's example, up.
func alone(t *testing.T) *rig {
	t.Helper()
	r := rigged(t, 1, config(1), 1)
	for _, now := range l(0, 10, 15, 20) {
		wantMsgs(t, r.tick(now))
	}
	return r
}

// topic is a client's wish for one.
func topic(name string, parts, replicas int) api.Msg {
	return api.Msg{Kind: api.AdminAsk, Index: meta.Topic, Name: name, High: parts, Seq: replicas, Pid: 1}
}

// leading is alone, with the offsets' partition, and one more: 2.
func leading(t *testing.T) *rig {
	t.Helper()
	r := alone(t)
	r.wantTell(topic("offsets", 1, 1), api.OK, api.Msg{Offset: 1})
	r.wantTell(topic("t", 1, 1), api.OK, api.Msg{Offset: 2})
	return r
}

// controller is the broker 1 of 1 2 3, that leads since the tick 10. Nobody is known.
func controller(t *testing.T) *rig {
	t.Helper()
	return controls(t, config(1, 2, 3))
}

func controls(t *testing.T, c broker.Config) *rig {
	t.Helper()
	r := rigged(t, 1, c, 1)
	r.tick(0)
	r.tick(9)
	// So that it beats apart from what its node does.
	wantMsgs(t, r.tick(10),
		api.Msg{Kind: api.VoteAsk, From: 1, To: 2, Term: 1}, api.Msg{Kind: api.VoteAsk, From: 1, To: 3, Term: 1})
	r.term = 1
	r.step(api.Msg{Kind: api.VoteTell, From: 2, Term: 1})
	if !r.b.Controls() {
		t.Fatal("it does not control")
	}
	r.agree()
	return r
}

// agree has all that it told be agreed on: what it tells then, but to the node that agrees.
func (r *rig) agree() []api.Msg {
	var list []api.Msg
	for _, m := range r.step(api.Msg{Kind: api.AppendTell, From: 2, Term: r.term, Index: r.end}) {
		if m.Kind != api.AppendAsk {
			list = append(list, m)
		}
	}
	return list
}

// comes has a broker be up.
func (r *rig) comes(id, life int) {
	r.t.Helper()
	for range 2 {
		r.step(api.Msg{Kind: api.BeatAsk, From: id, Index: life})
		r.agree()
	}
	if l, _ := r.b.Image().Life(id); l != life || !slices.Contains(r.b.Image().Up(), id) {
		r.t.Fatalf("%d is not up", id)
	}
}

// wantProposed asks what the last call proposed.
func (r *rig) wantProposed(want ...api.Meta) {
	r.t.Helper()
	var got, all string
	for _, x := range r.proposed {
		s, _ := wire.Meta(x)
		got += s + "\n"
	}
	for _, x := range want {
		s, e := wire.Meta(x)
		must(r.t, e)
		all += s + "\n"
	}
	if got != all {
		r.t.Fatalf("it proposed %+v, want %+v", r.proposed, want)
	}
}

// member is the broker 1 of 1 2 3, that is told of all by 2, which controls since the term 1.
func member(t *testing.T) *rig {
	t.Helper()
	r := rigged(t, 1, config(1, 2, 3), 1)
	r.term = 1
	wantMsgs(t, r.tick(0))
	wantMsgs(t, r.feed())
	return r
}

// entry is that of a record.
func entry(t *testing.T, x api.Meta) string {
	t.Helper()
	s, e := wire.Meta(x)
	must(t, e)
	return s
}

// feed has records be agreed on: what it tells then, but the answer to the controller.
func (r *rig) feed(records ...api.Meta) []api.Msg {
	r.t.Helper()
	var list []string
	for _, x := range records {
		list = append(list, entry(r.t, x))
	}
	return r.feedData(list...)
}

func (r *rig) feedData(data ...string) []api.Msg {
	r.t.Helper()
	var told []api.Msg
	for len(data) > 64 {
		told = append(told, r.feedData(data[:64]...)...)
		data = data[64:]
	}
	m := api.Msg{Kind: api.AppendAsk, From: 2, Term: r.term, Index: r.end, High: r.end + len(data)}
	if r.end > 0 {
		m.Last = r.term
	}
	for i, s := range data {
		m.Entries = append(m.Entries, api.Entry{Term: r.term, Index: r.end + i + 1, Data: s})
	}
	r.end += len(data)
	m.To = r.id
	list := r.b.Step(r.now, m)
	if len(list) == 0 || list[0].Kind != api.AppendTell || list[0].Err != api.OK || list[0].Index != r.end {
		r.t.Fatalf("the controller was told\n%s", show(list))
	}
	return append(told, list[1:]...)
}

// ups has brokers be known, and up, in their first lives.
func ups(ids ...int) []api.Meta {
	var list []api.Meta
	for _, id := range ids {
		list = append(list, api.Meta{Kind: meta.Register, A: id, B: 1}, api.Meta{Kind: meta.Unfence, A: id, B: 1})
	}
	return list
}

// makes is the record of a topic.
func makes(name string, parts, replicas int) api.Meta {
	return api.Meta{Kind: meta.Topic, Name: name, A: parts, B: replicas, C: 1}
}

// part is a partition that there is.
func (r *rig) part(id int) api.Part {
	r.t.Helper()
	p, ok := r.b.Image().Part(id)
	if !ok {
		r.t.Fatalf("there is no partition %d", id)
	}
	return p
}

// batch is of no producer.
func batch(values ...string) api.Batch {
	var b api.Batch
	for _, v := range values {
		b.Records = append(b.Records, api.Record{Value: v})
	}
	return b
}

// produce is a client's.
func produce(part, epoch int, list ...api.Batch) api.Msg {
	return api.Msg{Kind: api.ProduceAsk, Part: part, Epoch: epoch, Batches: list}
}

// fetch is of a follower that has all up to an offset, which was written in one epoch.
func fetch(from, part, epoch, offset, last int) api.Msg {
	return api.Msg{Kind: api.FetchAsk, From: from, Part: part, Epoch: epoch, Offset: offset, Last: last}
}
