package consumer_test

import (
	"fmt"
	"math"
	"slices"
	"strings"
	"testing"

	"logboom/api"
	"logboom/consumer"
)

// P19.4: calls are told once, in the order in which they ended, whichever were told ahead.
func TestDone(t *testing.T) {
	c, e := consumer.New(999, l(1), 10, 3)
	if e != api.OK {
		t.Fatal(e)
	}
	wantDone(t, c, 0)
	for i := range 4 {
		c.Call(0, api.Seen{Kind: consumer.Delete, Part: 2 + i, Offset: i})
	}
	wantDone(t, c, 4)
	ended := func(n int, err api.Errno) api.Seen {
		return api.Seen{Client: 999, Call: n, Kind: consumer.Delete, Part: 1 + n, Offset: n - 1, Err: err, Done: true}
	}
	end := func(n int, err api.Errno) {
		c.Step(1, api.Msg{Kind: api.DeleteTell, From: 1, To: 999, Id: n, Err: err})
	}
	end(3, api.OK)
	end(1, api.ErrRange)
	wantDone(t, c, 2, ended(3, api.OK), ended(1, api.ErrRange))
	wantDone(t, c, 2)
	end(4, api.OK)
	c.Call(2, api.Seen{Kind: consumer.Join})
	c.Tick(12) // 2 is asked anew, 5 is late
	c.Tick(22)
	c.Tick(32)
	wantDone(t, c, 0, ended(4, api.OK), api.Seen{Client: 999, Call: 5, Kind: consumer.Join, Err: api.ErrLate, Done: true}, ended(2, api.ErrLate))
	wantDone(t, c, 0)
}

// P19.4: what is told of a call that ended well: of each kind what is named, and nothing else.
func TestDoneOfEachKind(t *testing.T) {
	for i, s := range []api.Seen{
		{Offset: 5, Text: "b"},
		{Pid: 27, Seq: 29, Text: "3,9"},
		{Pid: 4, Seq: 29},
		{Pid: 4, Seq: 3, Offset: 5},
		{Offset: 21},
		{Offset: 5},
		{Offset: 21},
		{Offset: 21},
		{Offset: 21},
	} {
		asks := kinds()[i]
		c := made(t, l(1), 10, 3)
		step(t, c, 1, full(call(t, c, 0, asks), api.OK))
		s.Kind, s.Part, s.Name = asks.Kind, asks.Part, asks.Name
		wantDone(t, c, 0, returned(1, api.OK, s))
		// Of an answer that says nothing more nothing more is told, of a record none.
		step(t, c, 1, tell(call(t, c, 0, asks), api.OK))
		err := api.OK
		switch asks.Kind {
		case consumer.Read:
			s.Text, err = "", api.ErrNone
		case consumer.Join:
			s.Pid, s.Seq, s.Text = 0, 0, ""
		case consumer.Leave:
			s.Seq = 0
		case consumer.Offset, consumer.Create, consumer.Move, consumer.Stay:
			s.Offset = 0
		}
		wantDone(t, c, 0, returned(2, err, s))
		// Of an error, a broker's ErrNone, too, what was asked is told.
		for n, err := range []api.Errno{api.ErrNone, api.ErrArg, api.ErrOver} {
			step(t, c, 1, full(call(t, c, 0, asks), err))
			wantDone(t, c, 0, failed(3+n, err, asks))
		}
	}
}

// P19.4: numbers are told as the answer has them, whatever they are.
func TestDoneOfWildNumbers(t *testing.T) {
	for _, n := range append(wild(), 0) {
		for _, s := range kinds() {
			c := made(t, l(1), 10, 3)
			a := tell(call(t, c, 0, s), api.OK)
			a.Pid, a.Seq, a.Offset, a.Ints = n, n, n, l(n, n)
			step(t, c, 1, a)
			told := c.Done()[0]
			is := api.Seen{Kind: s.Kind, Part: s.Part, Name: s.Name}
			err := api.OK
			switch s.Kind {
			case consumer.Read:
				is.Offset, err = 5, api.ErrNone
			case consumer.Join:
				is.Pid, is.Seq, is.Text = n, n, fmt.Sprintf("%d,%d", n, n)
			case consumer.Leave:
				is.Pid, is.Seq = 4, n
			case consumer.Commit:
				is.Pid, is.Seq, is.Offset = 4, 3, 5
			case consumer.Delete:
				is.Offset = 5
			default:
				is.Offset = n
			}
			if is = returned(1, err, is); told != is {
				t.Fatalf("told is %+v, and not %+v", told, is)
			}
		}
	}
}

// P19.4: a list as a text.
func TestDoneOfLists(t *testing.T) {
	for _, x := range []struct {
		ints []int
		text string
	}{
		{nil, ""}, {l(), ""}, {l(0), "0"}, {l(2), "2"}, {l(2, 3), "2,3"}, {l(16, 2, 2, 10), "16,2,2,10"}, {l(1000000000), "1000000000"},
		{make([]int, 300), strings.TrimSuffix(strings.Repeat("0,", 300), ",")},
	} {
		c := made(t, l(1), 10, 3)
		a := tell(call(t, c, 0, api.Seen{Kind: consumer.Join, Name: "g"}), api.OK)
		a.Ints = x.ints
		step(t, c, 1, a)
		wantDone(t, c, 0, returned(1, api.OK, api.Seen{Kind: consumer.Join, Name: "g", Text: x.text}))
	}
}

// batch is some records with these values, from a place on.
func batch(base int, values ...string) api.Batch {
	b := api.Batch{Base: base}
	for _, v := range values {
		b.Records = append(b.Records, api.Record{Key: "key", Value: v, Time: 1})
	}
	return b
}

// P19.4: the record is that of the batch that has it; without one there is none.
func TestDoneOfReads(t *testing.T) {
	for _, x := range []struct {
		offset  int
		batches []api.Batch
		err     api.Errno
		text    string
	}{
		{5, []api.Batch{batch(5, "a")}, api.OK, "a"},
		{5, []api.Batch{batch(5, "a", "b")}, api.OK, "a"},
		{5, []api.Batch{batch(3, "a", "b", "c")}, api.OK, "c"},
		{5, []api.Batch{batch(5, "")}, api.OK, ""},
		{5, []api.Batch{batch(5, "\x00\xff")}, api.OK, "\x00\xff"},
		{5, nil, api.ErrNone, ""},
		{5, []api.Batch{}, api.ErrNone, ""},
		{5, []api.Batch{{Base: 5}}, api.ErrNone, ""},
		{5, []api.Batch{batch(3, "a", "b")}, api.ErrNone, ""},
		{5, []api.Batch{batch(6, "a", "b")}, api.ErrNone, ""},
		{5, []api.Batch{batch(1, "a", "b"), batch(3, "c", "d"), batch(5, "e", "f"), batch(7, "g")}, api.OK, "e"},
		{5, []api.Batch{batch(7, "a"), batch(4, "c", "d")}, api.OK, "d"},
		{5, []api.Batch{batch(1, "a"), batch(9, "b")}, api.ErrNone, ""},
		{5, []api.Batch{batch(5, "a"), batch(5, "b")}, api.OK, "a"},
		{0, []api.Batch{batch(0, "a")}, api.OK, "a"},
		{0, []api.Batch{batch(-1, "a", "b")}, api.OK, "b"},
		{5, []api.Batch{batch(math.MinInt, "a"), batch(math.MaxInt, "b", "c"), batch(math.MinInt+5, "d"), batch(math.MaxInt-4, "e")}, api.ErrNone, ""},
		{api.MaxOffset, []api.Batch{batch(api.MaxOffset-1, "a", "b")}, api.OK, "b"},
	} {
		c := made(t, l(1), 10, 3)
		s := api.Seen{Kind: consumer.Read, Part: 2, Offset: x.offset, Pid: 8, Seq: 9, Name: "n"}
		a := tell(call(t, c, 0, s), api.OK)
		a.Batches = x.batches
		step(t, c, 1, a)
		// PID and sequence are told of errors alone that a broker told, or time.
		wantDone(t, c, 0, returned(1, x.err, api.Seen{Kind: consumer.Read, Part: 2, Offset: x.offset, Name: "n", Text: x.text}))
		a = tell(call(t, c, 0, s), api.ErrRange)
		a.Batches = x.batches
		step(t, c, 1, a)
		wantDone(t, c, 0, returned(2, api.ErrRange, s))
	}
}

// P3: what was handed in, and what was told, is the caller's to change; what lies behind a list's end is let be.
func TestNothingIsShared(t *testing.T) {
	brokers := l(1, 2, 3, 9, 9)
	c, e := consumer.New(102, brokers[:2], 10, 5)
	if e != api.OK {
		t.Fatal(e)
	}
	brokers[0], brokers[1] = 6, 7
	if !slices.Equal(brokers, l(6, 7, 3, 9, 9)) {
		t.Error(brokers)
	}
	asks := []api.Seen{{Kind: consumer.Join, Name: "g", Part: 3}, {Kind: consumer.Commit, Name: "g"}, {Kind: consumer.Move, Text: "2,1"}}
	ints := [][]int{l(2, 3), l(2), l(2, 1)}
	var list []api.Msg
	for i, s := range asks {
		m := call(t, c, 0, s)
		if !slices.Equal(m.Ints, ints[i]) {
			t.Fatal(show([]api.Msg{m}))
		}
		list = append(list, m)
	}
	for round := range 3 {
		for i, m := range list {
			for k := range m.Ints {
				m.Ints[k] = -1
			}
			m.Ints = append(m.Ints[:0], 8)
			a := hint(m, api.ErrLeader, 0)
			step(t, c, 10*round, a)
			if len(m.Ints) != 1 || m.Ints[0] != 8 {
				t.Fatal(i, m.Ints)
			}
		}
		list = c.Tick(10*round + 10)
		for i, m := range list {
			if !slices.Equal(m.Ints, ints[i]) || m.To != 1+(round+1)%2 {
				t.Fatal(show(list))
			}
		}
	}
	a := full(list[0], api.OK)
	step(t, c, 40, a)
	a.Ints[0], a.Batches[0].Records[0].Value = 77, "!"
	b := full(list[1], api.OK)
	step(t, c, 40, b)
	if !slices.Equal(b.Ints, l(3, 9)) || b.Batches[0].Records[1].Value != "b" || b.Entries[0].Data != "d" {
		t.Error(b)
	}
	done := c.Done()
	if len(done) != 2 || done[0].Text != "3,9" {
		t.Fatal(done)
	}
	done[0].Call = 99
	done = append(done[:0], api.Seen{})
	step(t, c, 40, tell(list[2], api.OK))
	wantDone(t, c, 0, returned(3, api.OK, api.Seen{Kind: consumer.Move}))
	if len(done) != 1 || done[0].Call != 0 {
		t.Error("what was told is changed:", done)
	}
}

// P4: two consumers to which the same happens do the same, and know nothing of one another.
func TestTwoConsumers(t *testing.T) {
	c, d := made(t, l(1, 2), 10, 3), made(t, l(1, 2), 10, 3)
	m := call(t, c, 0, read(2, 0))
	step(t, c, 0, hint(m, api.ErrLeader, 2))
	want(t, c.Tick(1), again(m, 2, 2))
	wantDone(t, d, 0)
	asked(t, call(t, d, 0, read(2, 0)), m)
	step(t, d, 0, hint(m, api.ErrLeader, 2))
	want(t, d.Tick(1), again(m, 2, 2))
	step(t, c, 1, tell(again(m, 2, 2), api.ErrArg))
	wantDone(t, d, 1)
}

// A Consumer that New did not make has no room for a call.
func TestOfNothing(t *testing.T) {
	var c consumer.Consumer
	refuse(t, &c, api.Seen{}, api.ErrArg)
	for _, s := range kinds() {
		refuse(t, &c, s, api.ErrMany)
	}
	silent(t, &c, append(wild(), 0)...)
	ignores(t, &c, api.Msg{}, api.Msg{Kind: api.ReadTell}, api.Msg{Kind: api.AdminTell, Err: api.ErrLeader})
}
