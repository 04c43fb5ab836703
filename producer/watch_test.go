package producer_test

import (
	"fmt"
	"testing"

	"logboom/api"
	"logboom/producer"
)

// place is where a record stands among those of its producer.
type place struct{ pid, epoch, part, seq int }

// sent is a call as it was handed in, and what came of it.
type sent struct {
	part    int
	list    []api.Record
	isAsked bool
	at      place
	gone    bool
	err     api.Errno
	offset  int
}

// watch is a producer, and what must be so of all that it sends and tells (P18.5). Each record that it sends has another value.
type watch struct {
	t      *testing.T
	p      *producer.Producer
	id     int
	calls  []*sent
	of     map[string]int   // the call of a value
	values map[place]string // what was sent as that
	next   map[place]int    // by producer, epoch and partition: the sequence behind those that ended well
	failed map[place]bool   // by producer and epoch: a call of it ended with an error
	way    map[int]int      // by partition: the call that is under way
}

func newWatch(t *testing.T, id int, brokers []int, wait, tries int) *watch {
	t.Helper()
	return &watch{
		t: t, p: made(t, id, brokers, wait, tries), id: id, of: map[string]int{}, values: map[place]string{},
		next: map[place]int{}, failed: map[place]bool{}, way: map[int]int{},
	}
}

// send has some records be sent, if there is room.
func (w *watch) send(now, part, n int) []api.Msg {
	w.t.Helper()
	var list []api.Record
	for i := range n {
		list = append(list, api.Record{Value: fmt.Sprint(w.id, " ", len(w.calls)+1, " ", i)})
	}
	number, msgs, e := w.p.Send(now, part, list)
	if e == api.ErrMany && w.p.Open() == 20 {
		return nil
	}
	if e != api.OK || number != len(w.calls)+1 {
		w.t.Fatal(number, e)
	}
	w.calls = append(w.calls, &sent{part: part, list: list})
	for _, r := range list {
		w.of[r.Value] = number
	}
	return w.see(msgs)
}

func (w *watch) tick(now int) []api.Msg {
	w.t.Helper()
	return w.see(w.p.Tick(now))
}

func (w *watch) step(now int, m api.Msg) []api.Msg {
	w.t.Helper()
	return w.see(w.p.Step(now, m))
}

// see is what a call of the producer told; what has returned is taken ahead of it.
func (w *watch) see(msgs []api.Msg) []api.Msg {
	w.t.Helper()
	for _, s := range w.p.Done() {
		w.ended(s)
	}
	for _, m := range msgs {
		if m.Kind == api.ProduceAsk {
			w.asks(m)
		}
	}
	open := 0
	for _, c := range w.calls[max(0, len(w.calls)-400):] {
		if !c.gone {
			open++
		}
	}
	if open != w.p.Open() {
		w.t.Fatalf("open are %d calls, told is %d", open, w.p.Open())
	}
	return msgs
}

// ended is a call that returned: once, as it was asked for.
func (w *watch) ended(s api.Seen) {
	w.t.Helper()
	c := w.calls[s.Call-1]
	if c.gone || s.Text != c.list[0].Value || s.Part != c.part || !s.Done {
		w.t.Fatalf("told is %+v of %+v", s, *c)
	}
	if (place{s.Pid, s.PidEpoch, s.Part, s.Seq}) != c.at && (c.isAsked || s.Pid != 0 || s.PidEpoch != 0 || s.Seq != 0) {
		w.t.Fatalf("told is %+v of %+v", s, *c)
	}
	c.gone, c.err, c.offset = true, s.Err, s.Offset
	if w.way[c.part] == s.Call {
		delete(w.way, c.part)
	}
	if s.Err != api.OK {
		w.failed[place{pid: s.Pid, epoch: s.PidEpoch}] = true
	} else {
		w.next[place{s.Pid, s.PidEpoch, s.Part, 0}] = s.Seq + len(c.list)
	}
}

// asks is a message that a call is asked for by, at first or again.
func (w *watch) asks(m api.Msg) {
	w.t.Helper()
	b := m.Batches[0]
	number := w.of[b.Records[0].Value]
	c := w.calls[number-1]
	at := place{b.Pid, b.PidEpoch, m.Part, b.Seq}
	if c.gone || c.part != m.Part || len(b.Records) != len(c.list) {
		w.t.Fatalf("asked is\n%sof %+v", show([]api.Msg{m}), *c)
	}
	if !c.isAsked {
		c.isAsked, c.at = true, at
		// Sequences go on without gaps; behind an error none is used again.
		if w.way[m.Part] != 0 || b.Seq != w.next[place{b.Pid, b.PidEpoch, m.Part, 0}] || w.failed[place{pid: b.Pid, epoch: b.PidEpoch}] {
			w.t.Fatalf("asked is\n%swhile %d is under way", show([]api.Msg{m}), w.way[m.Part])
		}
		w.way[m.Part] = number
	}
	if c.at != at || w.way[m.Part] != number {
		w.t.Fatalf("asked is\n%sof %+v", show([]api.Msg{m}), *c)
	}
	for i, r := range b.Records {
		at.seq = b.Seq + i
		if v, ok := w.values[at]; ok && v != r.Value || w.of[r.Value] != number {
			w.t.Fatalf("%+v is %q, and was %q", at, r.Value, v)
		}
		w.values[at] = r.Value
	}
}
