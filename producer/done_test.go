package producer_test

import (
	"reflect"
	"slices"
	"strings"
	"testing"

	"logboom/api"
	"logboom/producer"
)

// P18.4: calls are told once, in the order in which they ended, whichever were told ahead.
func TestDone(t *testing.T) {
	p := made(t, 101, l(1), 10, 3)
	wantDone(t, p, 0)
	send(t, p, 0, 2, records("a", "b"))
	wantDone(t, p, 1)
	send(t, p, 0, 3, []api.Record{{Key: "k", Value: "", Time: 4}, {Value: "c"}})
	send(t, p, 0, 4, records("d"))
	send(t, p, 0, 3, records("e"))
	wantDone(t, p, 4)
	p.Step(1, tell(pidAsk(1, 1, 0), api.OK, 7)) // 2, 3, 4 are asked for by the requests 2, 3, 4
	wantDone(t, p, 4)
	p.Step(2, tell(produceAsk(1, 4, 4, 0, 0, 0, nil), api.OK, 11))
	p.Step(2, tell(produceAsk(1, 2, 2, 0, 0, 0, nil), api.OK, 12))
	wantDone(t, p, 2, returned(3, 4, "d", api.OK, 11, 7, 0, 0), returned(1, 2, "a", api.OK, 12, 7, 0, 0))
	wantDone(t, p, 2)
	p.Step(2, tell(produceAsk(1, 3, 3, 0, 0, 0, nil), api.OK, 13)) // 5 asks for the last one
	p.Step(3, tell(produceAsk(1, 5, 3, 0, 0, 0, nil), api.ErrFenced, 14))
	wantDone(t, p, 0, returned(2, 3, "", api.OK, 13, 7, 0, 0), returned(4, 3, "e", api.ErrFenced, 0, 7, 0, 2))
	wantDone(t, p, 0)
}

// P18.4: what was never asked for has no PID, no EPOCH and no sequence, also if the producer has.
func TestDoneOfWhatWasNotAsked(t *testing.T) {
	p := ready(t, l(1), 10, 3)
	send(t, p, 0, 2, records("a"))
	send(t, p, 0, 2, records("b"))
	p.Step(1, tell(produceAsk(1, 3, 2, 0, 0, 0, nil), api.OK, 0))
	p.Step(1, tell(produceAsk(1, 4, 2, 0, 0, 0, nil), api.ErrOrder, 0))
	wantDone(t, p, 0, returned(2, 2, "a", api.OK, 0, 7, 0, 0), returned(3, 2, "b", api.ErrOrder, 0, 7, 0, 1))
	send(t, p, 2, 2, records("c"))
	p.Step(2, tell(pidAsk(1, 5, 7), api.OK, 4))
	send(t, p, 2, 2, records("d"))
	p.Step(2, tell(produceAsk(1, 6, 2, 0, 0, 0, nil), api.ErrOrder, 0))
	wantDone(t, p, 1, returned(4, 2, "c", api.ErrOrder, 0, 7, 4, 0))
	p.Step(2, tell(pidAsk(1, 7, 7), api.ErrNone, 0))
	wantDone(t, p, 0, returned(5, 2, "d", api.ErrNone, 0, 0, 0, 0))
	wantId(t, p, 7, 4)
}

// P18.4: the PID and the EPOCH that are told are those of when it was asked for, however much later it is told.
func TestDoneOfLongAgo(t *testing.T) {
	p := made(t, 999, l(1), 10, 3)
	_, list := send(t, p, 0, 2, records("a"))
	list = p.Step(1, tell(list[0], api.OK, 7))
	p.Step(1, tell(list[0], api.ErrOrder, 0))
	_, list = send(t, p, 0, 2, records("b"))
	list = p.Step(1, tell(list[0], api.OK, 8))
	p.Step(1, tell(list[0], api.OK, 30))
	a, b := returned(1, 2, "a", api.ErrOrder, 0, 7, 0, 0), returned(2, 2, "b", api.OK, 30, 7, 8, 0)
	a.Client, b.Client = 999, 999
	wantDone(t, p, 0, a, b)
}

// scribble writes into all that messages have in lists.
func scribble(list []api.Msg) {
	for i := range list {
		for j := range list[i].Batches {
			b := &list[i].Batches[j]
			for k := range b.Records {
				b.Records[k] = api.Record{Key: "!", Value: "!", Time: -1}
			}
			b.Records = append(b.Records[:0], api.Record{Value: "?"})
			b.Pid, b.Seq = -1, -1
		}
	}
}

// P3: what was handed in, and what was told, is the caller's to change; what lies behind a list's end is let be.
func TestNothingIsShared(t *testing.T) {
	brokers := l(1, 2, 3, 9, 9)
	p, e := producer.New(101, brokers[:2], 10, 5)
	if e != api.OK {
		t.Fatal(e)
	}
	brokers[0], brokers[1] = 6, 7
	all := records("x", "y", "behind")
	x := records("x", "y")
	_, list := send(t, p, 0, 2, all[:2])
	all[0], all[1] = api.Record{Value: "!"}, api.Record{Key: "!"}
	if !reflect.DeepEqual(all[2], api.Record{Value: "behind"}) || !slices.Equal(brokers, l(6, 7, 3, 9, 9)) {
		t.Error(all, brokers)
	}
	want(t, list, pidAsk(1, 1, 0))
	list = p.Step(0, tell(list[0], api.OK, 7))
	want(t, list, produceAsk(1, 2, 2, 7, 0, 0, x))
	scribble(list)
	list = p.Tick(10)
	want(t, list, produceAsk(2, 3, 2, 7, 0, 0, x))
	scribble(list)
	// Nor are an answer's lists kept.
	a := hint(list[0], 0)
	a.Batches, a.Entries, a.Ints = list[0].Batches, []api.Entry{{Term: 1}}, l(1, 2)
	want(t, p.Step(10, a))
	if !slices.Equal(a.Ints, l(1, 2)) || a.Entries[0].Term != 1 || a.Batches[0].Records[0].Value != "?" {
		t.Error(a.Ints, a.Entries, a.Batches)
	}
	want(t, p.Tick(20), produceAsk(1, 4, 2, 7, 0, 0, x))
	p.Step(20, tell(produceAsk(1, 4, 2, 0, 0, 0, nil), api.OK, 5))
	done := p.Done()
	done[0].Call = 99
	done = append(done[:0], api.Seen{})
	send(t, p, 20, 3, records("z"))
	p.Step(20, tell(produceAsk(1, 5, 3, 0, 0, 0, nil), api.OK, 6))
	wantDone(t, p, 0, returned(2, 3, "z", api.OK, 6, 7, 0, 0))
	if len(done) != 1 || done[0].Call != 0 {
		t.Error("what was told is changed:", done)
	}
}

// A Producer that New did not make has no room for a call.
func TestOfNothing(t *testing.T) {
	var p producer.Producer
	refuse(t, &p, 1, records("x"), api.ErrArg)
	refuse(t, &p, 2, nil, api.ErrArg)
	refuse(t, &p, 2, records("x"), api.ErrMany)
	silent(t, &p, append(wild(), 0)...)
	ignores(t, &p, []api.Msg{{}, {Kind: api.AdminTell}, {Kind: api.ProduceTell, Err: api.ErrLeader}})
	wantId(t, &p, 0, 0)
}

// The greatest records go through as they are.
func TestGreatRecords(t *testing.T) {
	p := ready(t, l(1), 10, 3)
	many := make([]api.Record, 64)
	for i := range many {
		many[i] = api.Record{Key: strings.Repeat("k", i%3), Value: strings.Repeat("v", 20+i%7), Time: i * 1000}
	}
	long := []api.Record{{Key: strings.Repeat("\x00", 1000), Value: strings.Repeat("\xff", 1000), Time: api.MaxTick}}
	_, list := send(t, p, 0, 2, many)
	want(t, list, produceAsk(1, 3, 2, 7, 0, 0, many))
	_, list = send(t, p, 0, 3, long)
	want(t, list, produceAsk(1, 4, 3, 7, 0, 0, long))
	p.Step(0, tell(produceAsk(1, 4, 3, 0, 0, 0, nil), api.OK, 1))
	wantDone(t, p, 1, returned(3, 3, long[0].Value, api.OK, 1, 7, 0, 0))
}
