package consumer_test

import (
	"fmt"
	"math"
	"reflect"
	"slices"
	"strings"
	"testing"

	"logboom/api"
	"logboom/consumer"
)

// l is a list of numbers.
func l(list ...int) []int { return list }

// wild are numbers that few would hand in.
func wild() []int {
	return l(-1, -2, math.MinInt, math.MinInt+1, api.MaxOffset, api.MaxOffset+1, 1<<32+1, math.MaxInt-1, math.MaxInt)
}

// made is the consumer 102 of some brokers.
func made(t *testing.T, brokers []int, wait, tries int) *consumer.Consumer {
	t.Helper()
	c, e := consumer.New(102, brokers, wait, tries)
	if e != api.OK {
		t.Fatal(e)
	}
	return c
}

// call is a call that is taken, and what it asks.
func call(t *testing.T, c *consumer.Consumer, now int, s api.Seen) api.Msg {
	t.Helper()
	n, list, e := c.Call(now, s)
	if n < 1 || len(list) != 1 || e != api.OK {
		t.Fatalf("of %+v told is %d %v\n%s", s, n, e, show(list))
	}
	return list[0]
}

// read is a call that reads.
func read(part, offset int) api.Seen {
	return api.Seen{Kind: consumer.Read, Part: part, Offset: offset}
}

// kinds is a call of each kind that there is, with all that may be handed in.
func kinds() []api.Seen {
	var list []api.Seen
	for kind := consumer.Read; kind <= consumer.Stay; kind++ {
		list = append(list, api.Seen{Kind: kind, Part: 6, Offset: 5, Pid: 4, Seq: 3, Name: "n", Text: "2,1"})
	}
	return list
}

// readAsk is what the consumer 102 asks to read.
func readAsk(to, id, part, offset int) api.Msg {
	return api.Msg{Kind: api.ReadAsk, From: 102, To: to, Id: id, Part: part, Offset: offset}
}

// groupAsk is what the consumer 102 asks of a group, beside the numbers of its kind.
func groupAsk(to, id, index int, name string, ints []int) api.Msg {
	return api.Msg{Kind: api.GroupAsk, From: 102, To: to, Id: id, Index: index, Name: name, Ints: ints}
}

// again is what was asked, asked anew.
func again(m api.Msg, to, id int) api.Msg {
	m.To, m.Id = to, id
	return m
}

// tell is an answer to what was asked.
func tell(m api.Msg, err api.Errno) api.Msg {
	return api.Msg{Kind: m.Kind + 1, From: m.To, To: m.From, Id: m.Id, Part: m.Part, Err: err}
}

// hint is the answer of one who does not lead, or does not coordinate.
func hint(m api.Msg, err api.Errno, last int) api.Msg {
	a := tell(m, err)
	a.Last = last
	return a
}

// full is an answer of which all numbers are told, and a batch.
func full(m api.Msg, err api.Errno) api.Msg {
	a := tell(m, err)
	a.Epoch, a.Offset, a.Last, a.Start, a.High, a.Term, a.Index, a.Pid, a.PidEpoch, a.Seq = 20, 21, 22, 23, 24, 25, 26, 27, 28, 29
	a.Name, a.Text, a.Ints, a.Entries = "N", "T", l(3, 9), []api.Entry{{Term: 1, Index: 1, Data: "d"}}
	a.Batches = []api.Batch{{Base: 4, Records: []api.Record{{Value: "a"}, {Value: "b"}}}}
	return a
}

// bare is a message whose lists of nothing are nil.
func bare(m api.Msg) api.Msg {
	if len(m.Batches) == 0 {
		m.Batches = nil
	}
	if len(m.Entries) == 0 {
		m.Entries = nil
	}
	if len(m.Ints) == 0 {
		m.Ints = nil
	}
	return m
}

// same tells whether two lists of messages are one.
func same(a, b []api.Msg) bool {
	return slices.EqualFunc(a, b, func(x, y api.Msg) bool { return reflect.DeepEqual(bare(x), bare(y)) })
}

// show is a list of messages as it is told when a test fails.
func show(list []api.Msg) string {
	var s strings.Builder
	for _, m := range list {
		fmt.Fprintf(&s, "%d from %d to %d, id %d, part %d, index %d, name %q, high %d, offset %d, last %d, pid %d, seq %d, ints %v, %d batches, err %d\n",
			m.Kind, m.From, m.To, m.Id, m.Part, m.Index, m.Name, m.High, m.Offset, m.Last, m.Pid, m.Seq, m.Ints, len(m.Batches), int(m.Err))
	}
	return s.String()
}

// want holds messages against those that should be told.
func want(t *testing.T, got []api.Msg, msgs ...api.Msg) {
	t.Helper()
	if !same(got, msgs) {
		t.Fatalf("told is\n%sand not\n%s", show(got), show(msgs))
	}
}

// asked holds a message against that which should be told.
func asked(t *testing.T, got, m api.Msg) {
	t.Helper()
	want(t, []api.Msg{got}, m)
}

// returned is a call that the consumer 102 tells as ended.
func returned(n int, err api.Errno, s api.Seen) api.Seen {
	s.Client, s.Call, s.Err, s.Done = 102, n, err, true
	return s
}

// wantDone holds what has returned against what should have.
func wantDone(t *testing.T, c *consumer.Consumer, open int, list ...api.Seen) {
	t.Helper()
	if got := c.Done(); !slices.Equal(got, list) {
		t.Fatalf("done are\n%+v\nand not\n%+v", got, list)
	}
	if c.Open() != open {
		t.Fatalf("open are %d, not %d", c.Open(), open)
	}
}

// silent asks that nothing is told at these ticks.
func silent(t *testing.T, c *consumer.Consumer, ticks ...int) {
	t.Helper()
	for _, now := range ticks {
		if list := c.Tick(now); len(list) != 0 {
			t.Fatalf("at %d told is\n%s", now, show(list))
		}
	}
}

// step has messages come, of which nothing is to be told.
func step(t *testing.T, c *consumer.Consumer, now int, list ...api.Msg) {
	t.Helper()
	for _, m := range list {
		want(t, c.Step(now, m))
	}
}

// The document's example.
func TestExample(t *testing.T) {
	c := made(t, l(1, 2), 10, 3)
	n, list, e := c.Call(0, read(2, 5))
	if n != 1 || e != api.OK {
		t.Error(n, e)
	}
	want(t, list, readAsk(1, 1, 2, 5))
	step(t, c, 2, hint(list[0], api.ErrLeader, 2))
	want(t, c.Tick(3), readAsk(2, 2, 2, 5))
	a := tell(readAsk(2, 2, 2, 5), api.OK)
	a.Batches = []api.Batch{{Base: 4, Records: []api.Record{{Value: "a"}, {Value: "b"}}}}
	step(t, c, 4, a)
	wantDone(t, c, 0, returned(1, api.OK, api.Seen{Kind: 1, Part: 2, Offset: 5, Text: "b"}))
	asked(t, call(t, c, 4, api.Seen{Kind: consumer.Commit}), groupAsk(1, 3, 3, "", l(2)))
	silent(t, c, 14)
	wantDone(t, c, 0, returned(2, api.ErrLate, api.Seen{Kind: 4}))
}
