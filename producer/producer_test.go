package producer_test

import (
	"fmt"
	"math"
	"reflect"
	"slices"
	"strings"
	"testing"

	"logboom/api"
	"logboom/producer"
)

// l is a list of numbers.
func l(list ...int) []int { return list }

// wild are numbers that few would hand in.
func wild() []int {
	return l(-1, -2, math.MinInt, math.MinInt+1, api.MaxOffset, api.MaxOffset+1, 1<<32+1, math.MaxInt-1, math.MaxInt)
}

// records are some with these values.
func records(values ...string) []api.Record {
	var list []api.Record
	for _, v := range values {
		list = append(list, api.Record{Value: v})
	}
	return list
}

// made is a producer that may be.
func made(t *testing.T, id int, brokers []int, wait, tries int) *producer.Producer {
	t.Helper()
	p, e := producer.New(id, brokers, wait, tries)
	if e != api.OK {
		t.Fatal(e)
	}
	return p
}

// send is a call that is taken, and what it tells.
func send(t *testing.T, p *producer.Producer, now, part int, list []api.Record) (int, []api.Msg) {
	t.Helper()
	n, msgs, e := p.Send(now, part, list)
	if e != api.OK {
		t.Fatal(e)
	}
	return n, msgs
}

// pidAsk is what the producer 101 asks for a PID.
func pidAsk(to, id, pid int) api.Msg {
	return api.Msg{Kind: api.AdminAsk, From: 101, To: to, Id: id, Index: 8, High: pid}
}

// produceAsk is what the producer 101 asks for records.
func produceAsk(to, id, part, pid, epoch, seq int, list []api.Record) api.Msg {
	return api.Msg{Kind: api.ProduceAsk, From: 101, To: to, Id: id, Part: part, Batches: []api.Batch{{Pid: pid, PidEpoch: epoch, Seq: seq, Records: list}}}
}

// tell is an answer to what was asked.
func tell(m api.Msg, err api.Errno, offset int) api.Msg {
	return api.Msg{Kind: m.Kind + 1, From: m.To, To: m.From, Id: m.Id, Part: m.Part, Err: err, Offset: offset}
}

// hint is the answer of one who does not lead.
func hint(m api.Msg, last int) api.Msg {
	a := tell(m, api.ErrLeader, 0)
	a.Last = last
	return a
}

// bare is a message whose lists of nothing are nil.
func bare(m api.Msg) api.Msg {
	if len(m.Batches) == 0 {
		m.Batches = nil
	}
	if len(m.Entries) == 0 {
		m.Entries = nil
	}
	if len(m.Ints) == 0 {
		m.Ints = nil
	}
	return m
}

// same tells whether two lists of messages are one.
func same(a, b []api.Msg) bool {
	return slices.EqualFunc(a, b, func(x, y api.Msg) bool { return reflect.DeepEqual(bare(x), bare(y)) })
}

// show is a list of messages as it is told when a test fails.
func show(list []api.Msg) string {
	var s strings.Builder
	for _, m := range list {
		fmt.Fprintf(&s, "%d from %d to %d, id %d, part %d, index %d, high %d, offset %d, last %d, err %d", m.Kind, m.From, m.To, m.Id, m.Part, m.Index, m.High, m.Offset, m.Last, int(m.Err))
		for _, b := range m.Batches {
			fmt.Fprintf(&s, ", %d records of %d %d %d", len(b.Records), b.Pid, b.PidEpoch, b.Seq)
		}
		s.WriteString("\n")
	}
	return s.String()
}

// want holds messages against those that should be told.
func want(t *testing.T, got []api.Msg, msgs ...api.Msg) {
	t.Helper()
	if !same(got, msgs) {
		t.Fatalf("told is\n%sand not\n%s", show(got), show(msgs))
	}
}

// returned is a call that ended, as the producer 101 tells it.
func returned(n, part int, text string, err api.Errno, offset, pid, epoch, seq int) api.Seen {
	return api.Seen{Client: 101, Call: n, Kind: 10, Part: part, Offset: offset, Pid: pid, PidEpoch: epoch, Seq: seq, Text: text, Err: err, Done: true}
}

// wantDone holds what has returned against what should have.
func wantDone(t *testing.T, p *producer.Producer, open int, list ...api.Seen) {
	t.Helper()
	if got := p.Done(); !slices.Equal(got, list) {
		t.Fatalf("done are\n%+v\nand not\n%+v", got, list)
	}
	if p.Open() != open {
		t.Fatalf("open are %d, not %d", p.Open(), open)
	}
}

func wantId(t *testing.T, p *producer.Producer, pid, epoch int) {
	t.Helper()
	if a, b := p.Id(); a != pid || b != epoch {
		t.Fatalf("it is %d %d, not %d %d", a, b, pid, epoch)
	}
}

// ready is the producer 101 with the PID 7, of which nothing is open; its last request was 2, of the partition 16.
func ready(t *testing.T, brokers []int, wait, tries int) *producer.Producer {
	t.Helper()
	p := made(t, 101, brokers, wait, tries)
	_, list := send(t, p, 0, 16, records("first"))
	list = p.Step(0, tell(list[0], api.OK, 7))
	want(t, p.Step(0, tell(list[0], api.OK, 0)))
	wantDone(t, p, 0, returned(1, 16, "first", api.OK, 0, 7, 0, 0))
	return p
}

// The document's example.
func TestExample(t *testing.T) {
	p := made(t, 101, l(1, 2), 10, 3)
	n, list := send(t, p, 0, 2, records("x"))
	if n != 1 {
		t.Error(n)
	}
	want(t, list, pidAsk(1, 1, 0))
	want(t, p.Step(1, tell(list[0], api.OK, 7)), produceAsk(1, 2, 2, 7, 0, 0, records("x")))
	wantId(t, p, 7, 0)
	asked := produceAsk(1, 2, 2, 7, 0, 0, records("x"))
	want(t, p.Step(3, hint(asked, 2)))
	want(t, p.Tick(3))
	want(t, p.Tick(4), produceAsk(2, 3, 2, 7, 0, 0, records("x")))
	asked.To, asked.Id = 2, 3
	want(t, p.Step(5, tell(asked, api.OK, 40)))
	wantDone(t, p, 0, returned(1, 2, "x", api.OK, 40, 7, 0, 0))
	wantDone(t, p, 0)
}
