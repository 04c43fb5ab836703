package producer_test

import (
	"slices"
	"strings"
	"testing"

	"logboom/api"
	"logboom/producer"
	"logboom/wire"
)

// P18.1: what may be made, and what not.
func TestNew(t *testing.T) {
	type made struct {
		id          int
		brokers     []int
		wait, tries int
	}
	for _, c := range []made{
		{101, l(1), 1, 1}, {999, l(7), api.MaxTick, 1000}, {500, l(1, 2, 3, 4, 5, 6, 7), 10, 10}, {101, l(2, 5), 1, 1000},
	} {
		p, e := producer.New(c.id, c.brokers, c.wait, c.tries)
		if p == nil || e != api.OK {
			t.Fatal(c, e)
		}
		wantDone(t, p, 0)
		wantId(t, p, 0, 0)
		want(t, p.Tick(0))
	}
	wrong := []made{
		{0, l(1), 1, 1}, {1, l(1), 1, 1}, {100, l(1), 1, 1}, {1000, l(1), 1, 1},
		{101, nil, 1, 1}, {101, l(), 1, 1}, {101, l(0), 1, 1}, {101, l(8), 1, 1}, {101, l(0, 1), 1, 1}, {101, l(1, 8), 1, 1},
		{101, l(1, 1), 1, 1}, {101, l(2, 1), 1, 1}, {101, l(1, 3, 2), 1, 1}, {101, l(1, 2, 3, 4, 5, 6, 7, 7), 1, 1}, {101, l(1, 2, 3, 4, 5, 6, 7, 8), 1, 1},
		{101, l(1), 0, 1}, {101, l(1), api.MaxTick + 1, 1}, {101, l(1), 1, 0}, {101, l(1), 1, 1001},
	}
	for _, n := range wild() {
		wrong = append(wrong, made{n, l(1), 1, 1}, made{101, l(n), 1, 1}, made{101, l(1), 1, n})
		if n != api.MaxTick {
			wrong = append(wrong, made{101, l(1), n, 1})
		}
	}
	for _, c := range wrong {
		if p, e := producer.New(c.id, c.brokers, c.wait, c.tries); p != nil || e != api.ErrArg {
			t.Error(c, p, e)
		}
	}
}

// refuse asks that a call is refused with an error, and changes nothing.
func refuse(t *testing.T, p *producer.Producer, part int, list []api.Record, err api.Errno) {
	t.Helper()
	open := p.Open()
	if n, msgs, e := p.Send(0, part, list); n != 0 || len(msgs) != 0 || e != err {
		t.Fatalf("told is %d %v %v, and not %v", n, msgs, e, err)
	}
	wantDone(t, p, open)
}

// fits are records of which a batch of the producer 1 has so many bytes.
func fits(t *testing.T, size int) []api.Record {
	t.Helper()
	list := records(strings.Repeat("a", 1000), strings.Repeat("b", 1000), strings.Repeat("c", 1000), strings.Repeat("d", 900))
	s, e := wire.Batch(api.Batch{Pid: 1, Records: list})
	if e != api.OK {
		t.Fatal(e)
	}
	list[3].Key = strings.Repeat("k", size-len(s)-1) // its length has a byte more, from 64 on
	return list
}

// P18.1: what may be sent, and what not, and which error is told first.
func TestSendErrors(t *testing.T) {
	p := made(t, 101, l(1, 2), 10, 3)
	for _, part := range append(wild(), 0, 1, 17) {
		refuse(t, p, part, records("x"), api.ErrArg)
		refuse(t, p, part, make([]api.Record, 65), api.ErrArg)
	}
	wrong := func() {
		t.Helper()
		refuse(t, p, 2, nil, api.ErrArg)
		refuse(t, p, 2, []api.Record{}, api.ErrArg)
		refuse(t, p, 16, []api.Record{{}, {Time: -1}}, api.ErrArg)
		refuse(t, p, 16, []api.Record{{Time: api.MaxTick + 1}}, api.ErrArg)
		refuse(t, p, 2, make([]api.Record, 65), api.ErrMany)
		refuse(t, p, 2, append(make([]api.Record, 65), api.Record{Time: -1}), api.ErrArg)
		refuse(t, p, 2, records(strings.Repeat("x", 1001)), api.ErrLong)
		refuse(t, p, 2, []api.Record{{Key: strings.Repeat("x", 1001)}}, api.ErrLong)
		refuse(t, p, 2, fits(t, 4097), api.ErrLong)
	}
	wrong()
	n, list := send(t, p, 0, 2, fits(t, 4096))
	if n != 1 {
		t.Error("what was refused is counted:", n)
	}
	want(t, list, pidAsk(1, 1, 0))
	for i := range 19 {
		if n, list := send(t, p, 0, 2+i%15, make([]api.Record, 64)); n != 2+i || len(list) != 0 {
			t.Error(n, list)
		}
	}
	wrong()
	for part := 2; part <= 16; part++ {
		refuse(t, p, part, records("x"), api.ErrMany)
	}
	refuse(t, p, 1, records("x"), api.ErrArg)
	// As soon as one has ended there is room for another one.
	list = p.Step(0, tell(pidAsk(1, 1, 0), api.OK, 7))
	if len(list) != 15 || list[0].Part != 2 {
		t.Fatal(show(list))
	}
	p.Step(0, tell(list[0], api.OK, 0))
	if p.Open() != 19 || len(p.Done()) != 1 {
		t.Error(p.Open())
	}
	if n, _ := send(t, p, 0, 2, records("x")); n != 21 {
		t.Error(n)
	}
	refuse(t, p, 2, records("x"), api.ErrMany)
}

// P18.1: a call that is refused is asked for by nobody.
func TestRefusedIsNotAsked(t *testing.T) {
	p := made(t, 101, l(1), 10, 3)
	refuse(t, p, 2, nil, api.ErrArg)
	refuse(t, p, 1, records("x"), api.ErrArg)
	want(t, p.Tick(100))
	_, list := send(t, p, 100, 2, records("y"))
	want(t, list, pidAsk(1, 1, 0))
}

// TO PUMP: of a partition one is under way at a time, of several partitions several, in the order of the calls.
func TestPump(t *testing.T) {
	p := ready(t, l(1, 2), 10, 3)
	a, b, c, d := records("a", "aa"), records("b"), records("c"), records("d")
	_, list := send(t, p, 0, 3, a)
	want(t, list, produceAsk(1, 3, 3, 7, 0, 0, a))
	_, list = send(t, p, 0, 3, b)
	want(t, list)
	_, list = send(t, p, 0, 2, c)
	want(t, list, produceAsk(1, 4, 2, 7, 0, 0, c))
	_, list = send(t, p, 0, 3, d)
	want(t, list)
	_, list = send(t, p, 0, 16, d)
	want(t, list, produceAsk(1, 5, 16, 7, 0, 1, d))
	want(t, p.Step(1, tell(produceAsk(1, 4, 2, 0, 0, 0, nil), api.OK, 9)))
	want(t, p.Step(1, tell(produceAsk(1, 3, 3, 0, 0, 0, nil), api.OK, 5)), produceAsk(1, 6, 3, 7, 0, 2, b))
	want(t, p.Step(1, tell(produceAsk(1, 6, 3, 0, 0, 0, nil), api.OK, 8)), produceAsk(1, 7, 3, 7, 0, 3, d))
	wantDone(t, p, 2, returned(4, 2, "c", api.OK, 9, 7, 0, 0), returned(2, 3, "a", api.OK, 5, 7, 0, 0), returned(3, 3, "b", api.OK, 8, 7, 0, 2))
}

// TO PUMP: all that waited for the PID is asked for in the order of the calls, one of each partition.
func TestPumpBehindPid(t *testing.T) {
	p := made(t, 101, l(3, 4), 10, 3)
	_, list := send(t, p, 0, 5, records("a"))
	want(t, list, pidAsk(3, 1, 0))
	for _, part := range l(4, 5, 6, 4, 2) {
		_, list = send(t, p, 0, part, records("b"))
		want(t, list)
	}
	x := records("b")
	want(t, p.Step(2, tell(pidAsk(3, 1, 0), api.OK, 1000)),
		produceAsk(3, 2, 5, 1000, 0, 0, records("a")), produceAsk(3, 3, 4, 1000, 0, 0, x), produceAsk(3, 4, 6, 1000, 0, 0, x), produceAsk(3, 5, 2, 1000, 0, 0, x))
}

// upTo has the producer 101 of one broker, ready, send so many sequences to 2; how many requests there were.
func upTo(t *testing.T, p *producer.Producer, end int) int {
	t.Helper()
	id := 2
	for seq := 0; seq < end; {
		n := min(64, end-seq)
		id++
		_, list := send(t, p, 0, 2, make([]api.Record, n))
		if len(list) != 1 || list[0].Batches[0].Seq != seq || list[0].Id != id {
			t.Fatal("at", seq, show(list))
		}
		seq += n
		want(t, p.Step(0, tell(list[0], api.OK, seq)))
		p.Done()
	}
	return id
}

// TO PUMP: a call whose last sequence would be above the greatest one waits for a new EPOCH, and nothing more is asked for until then.
func TestLastSequence(t *testing.T) {
	for _, c := range []struct {
		next, n int
		fits    bool
	}{{1000000, 1, true}, {1000001, 1, false}, {999990, 11, true}, {999990, 12, false}} {
		p := ready(t, l(1), 10, 3)
		id := upTo(t, p, c.next)
		x := slices.Repeat(records("x"), c.n)
		_, list := send(t, p, 5, 2, x)
		if c.fits {
			want(t, list, produceAsk(1, id+1, 2, 7, 0, c.next, x))
			continue
		}
		want(t, list, pidAsk(1, id+1, 7))
		_, list = send(t, p, 5, 3, records("y"))
		want(t, list)
		wantId(t, p, 7, 0)
		want(t, p.Step(6, tell(pidAsk(1, id+1, 7), api.OK, 1)), produceAsk(1, id+2, 2, 7, 1, 0, x), produceAsk(1, id+3, 3, 7, 1, 0, records("y")))
	}
}

// TO PUMP: what is under way when sequences are at an end is waited for; until then no other call is asked for.
func TestLastSequenceAmidOthers(t *testing.T) {
	p := ready(t, l(1), 10, 3)
	id := upTo(t, p, 1000000)
	x, y := records("x", "x"), records("y")
	_, list := send(t, p, 5, 3, y)
	want(t, list, produceAsk(1, id+1, 3, 7, 0, 0, y))
	_, list = send(t, p, 5, 3, y)
	want(t, list)
	_, list = send(t, p, 5, 2, x)
	want(t, list)
	_, list = send(t, p, 5, 4, y)
	want(t, list)
	// It is stale: not even the next one of 3 is asked for.
	want(t, p.Step(6, tell(produceAsk(1, id+1, 3, 0, 0, 0, nil), api.OK, 4)), pidAsk(1, id+2, 7))
	wantDone(t, p, 3, returned(id, 3, "y", api.OK, 4, 7, 0, 0))
	want(t, p.Step(7, tell(pidAsk(1, id+2, 7), api.OK, 3)),
		produceAsk(1, id+3, 3, 7, 3, 0, y), produceAsk(1, id+4, 2, 7, 3, 0, x), produceAsk(1, id+5, 4, 7, 3, 0, y))
}

// TO PUMP: one behind it that would fit is not asked for ahead of it.
func TestLastSequenceKeepsOrder(t *testing.T) {
	p := ready(t, l(1), 10, 3)
	id := upTo(t, p, 999999)
	x, y := records("x", "x"), records("y")
	_, list := send(t, p, 5, 2, y)
	asked := list[0]
	_, list = send(t, p, 5, 2, x)
	want(t, list)
	_, list = send(t, p, 5, 2, y)
	want(t, list)
	want(t, p.Step(6, tell(asked, api.OK, 4)), pidAsk(1, id+2, 7))
	want(t, p.Step(7, tell(pidAsk(1, id+2, 7), api.OK, 1)), produceAsk(1, id+3, 2, 7, 1, 0, x))
}
