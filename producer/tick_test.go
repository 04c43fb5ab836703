package producer_test

import (
	"math"
	"testing"

	"logboom/api"
	"logboom/producer"
)

// silent asks that nothing is told at these ticks.
func silent(t *testing.T, p *producer.Producer, ticks ...int) {
	t.Helper()
	for _, now := range ticks {
		if list := p.Tick(now); len(list) != 0 {
			t.Fatalf("at %d told is\n%s", now, show(list))
		}
	}
}

// P18.2: what is not answered is asked anew when its time is up, of one broker behind the other, round and round, by new numbers; then it is late.
func TestTickOfACall(t *testing.T) {
	p := ready(t, l(2, 3, 5), 10, 5)
	x := records("x", "y")
	_, list := send(t, p, 100, 4, x)
	want(t, list, produceAsk(2, 3, 4, 7, 0, 0, x))
	silent(t, p, 100, 109, 0, math.MinInt)
	want(t, p.Tick(110), produceAsk(3, 4, 4, 7, 0, 0, x))
	silent(t, p, 110, 119)
	want(t, p.Tick(125), produceAsk(5, 5, 4, 7, 0, 0, x))
	silent(t, p, 134)
	want(t, p.Tick(135), produceAsk(2, 6, 4, 7, 0, 0, x))
	want(t, p.Tick(145), produceAsk(3, 7, 4, 7, 0, 0, x))
	silent(t, p, 154)
	wantDone(t, p, 1)
	silent(t, p, 155)
	wantDone(t, p, 0, returned(2, 4, "x", api.ErrLate, 0, 7, 0, 0))
	silent(t, p, 156, 1000, math.MaxInt)
	// It is stale, and the partition's aim stays where it was.
	_, list = send(t, p, 200, 4, x)
	want(t, list, pidAsk(2, 8, 7))
	want(t, p.Step(201, tell(list[0], api.OK, 1)), produceAsk(3, 9, 4, 7, 1, 0, x))
}

// P18.2: for the PID, too; then all open calls are late, none of them was asked for.
func TestTickOfThePid(t *testing.T) {
	p := made(t, 101, l(1, 2), 7, 3)
	_, list := send(t, p, 3, 2, records("a"))
	want(t, list, pidAsk(1, 1, 0))
	send(t, p, 4, 3, records("b"))
	send(t, p, 5, 2, records("c"))
	silent(t, p, 9)
	want(t, p.Tick(10), pidAsk(2, 2, 0))
	silent(t, p, 16)
	want(t, p.Tick(17), pidAsk(1, 3, 0))
	silent(t, p, 23)
	wantDone(t, p, 3)
	silent(t, p, 24)
	wantDone(t, p, 0, returned(1, 2, "a", api.ErrLate, 0, 0, 0, 0), returned(2, 3, "b", api.ErrLate, 0, 0, 0, 0), returned(3, 2, "c", api.ErrLate, 0, 0, 0, 0))
	wantId(t, p, 0, 0)
	silent(t, p, 25, 100)
	// The next call asks anew, with all tries.
	_, list = send(t, p, 100, 2, records("d"))
	want(t, list, pidAsk(1, 4, 0))
	want(t, p.Tick(107), pidAsk(2, 5, 0))
	want(t, p.Tick(114), pidAsk(1, 6, 0))
	silent(t, p, 121)
	wantDone(t, p, 0, returned(4, 2, "d", api.ErrLate, 0, 0, 0, 0))
}

// P18.2: of one try nothing is asked anew.
func TestTickOfOneTry(t *testing.T) {
	p := made(t, 101, l(1), 1, 1)
	_, list := send(t, p, 0, 2, records("a"))
	want(t, list, pidAsk(1, 1, 0))
	silent(t, p, 0)
	wantDone(t, p, 1)
	silent(t, p, 1)
	wantDone(t, p, 0, returned(1, 2, "a", api.ErrLate, 0, 0, 0, 0))
	_, list = send(t, p, 1, 2, records("b"))
	want(t, p.Step(1, tell(list[0], api.OK, 4)), produceAsk(1, 3, 2, 4, 0, 0, records("b")))
	silent(t, p, 2)
	wantDone(t, p, 0, returned(2, 2, "b", api.ErrLate, 0, 4, 0, 0))
}

// P18.2: requests are gone through in the order in which they were first asked, also those that were asked anew.
func TestTickKeepsPlaces(t *testing.T) {
	p := ready(t, l(1, 2), 10, 3)
	x := records("x")
	for i, part := range l(5, 3, 4) {
		send(t, p, i, part, x)
	}
	want(t, p.Tick(10), produceAsk(2, 6, 5, 7, 0, 0, x))
	want(t, p.Tick(12), produceAsk(2, 7, 3, 7, 0, 0, x), produceAsk(2, 8, 4, 7, 0, 0, x))
	want(t, p.Tick(22), produceAsk(1, 9, 5, 7, 0, 0, x), produceAsk(1, 10, 3, 7, 0, 0, x), produceAsk(1, 11, 4, 7, 0, 0, x))
	send(t, p, 22, 2, x)
	silent(t, p, 31)
	want(t, p.Tick(32), produceAsk(2, 13, 2, 7, 0, 0, x))
	wantDone(t, p, 1, returned(2, 5, "x", api.ErrLate, 0, 7, 0, 0), returned(3, 3, "x", api.ErrLate, 0, 7, 0, 0), returned(4, 4, "x", api.ErrLate, 0, 7, 0, 0))
}

// P18.2: when a call is late, the PID waits for what else is under way; what is asked for then comes behind what is asked anew.
func TestTickThenPump(t *testing.T) {
	p := ready(t, l(1, 2), 10, 2)
	x, y := records("x"), records("y")
	send(t, p, 0, 2, x)
	send(t, p, 5, 3, x)
	send(t, p, 5, 2, y)
	want(t, p.Tick(10), produceAsk(2, 5, 2, 7, 0, 0, x))
	want(t, p.Tick(15), produceAsk(2, 6, 3, 7, 0, 0, x))
	silent(t, p, 20)
	wantDone(t, p, 2, returned(2, 2, "x", api.ErrLate, 0, 7, 0, 0))
	// The second ends well, but it is stale all the same.
	want(t, p.Step(21, tell(produceAsk(2, 6, 3, 0, 0, 0, nil), api.OK, 9)), pidAsk(1, 7, 7))
	wantDone(t, p, 1, returned(3, 3, "x", api.OK, 9, 7, 0, 0))
	want(t, p.Step(22, tell(pidAsk(1, 7, 7), api.OK, 1)), produceAsk(2, 8, 2, 7, 1, 0, y))
	// In the same tick in which the last one is late the PID is asked for.
	send(t, p, 22, 2, y)
	want(t, p.Tick(32), produceAsk(1, 9, 2, 7, 1, 0, y))
	want(t, p.Tick(42), pidAsk(1, 10, 7))
	wantDone(t, p, 1, returned(4, 2, "y", api.ErrLate, 0, 7, 1, 0))
}

// P18.2: an aim that an answer moved stays there, one that points where it was asked moves on.
func TestTickAims(t *testing.T) {
	p := ready(t, l(1, 2, 4), 10, 9)
	x := records("x")
	send(t, p, 0, 2, x)
	asked := produceAsk(1, 3, 2, 7, 0, 0, x)
	for _, c := range []struct{ last, due, to int }{
		{4, 1, 4},  // a hint: there, soon
		{4, 1, 1},  // a hint to itself: one behind
		{0, 10, 2}, // no hint: one behind, when its time is up
		{3, 10, 4}, // a hint that is none
	} {
		want(t, p.Step(100, hint(asked, c.last)))
		silent(t, p, 100+c.due-1)
		asked.To, asked.Id = c.to, asked.Id+1
		want(t, p.Tick(100+c.due), asked)
	}
	// Each partition has an aim of its own.
	_, list := send(t, p, 200, 3, x)
	want(t, list, produceAsk(1, 8, 3, 7, 0, 0, x))
}

// P6: ticks go round.
func TestTicksGoRound(t *testing.T) {
	p := ready(t, l(1, 2), 10, 5)
	x := records("x")
	send(t, p, math.MaxInt-3, 2, x)
	// Its deadline is far below.
	want(t, p.Tick(math.MaxInt-3), produceAsk(2, 4, 2, 7, 0, 0, x))
	silent(t, p, math.MinInt+5)
	want(t, p.Tick(math.MinInt+6), produceAsk(1, 5, 2, 7, 0, 0, x))
	want(t, p.Step(math.MaxInt, hint(produceAsk(1, 5, 2, 7, 0, 0, x), 2)))
	want(t, p.Tick(math.MinInt), produceAsk(2, 6, 2, 7, 0, 0, x))
}

// A tick at which nothing is due changes nothing.
func TestTickOfNothing(t *testing.T) {
	p := made(t, 101, l(1), 10, 3)
	silent(t, p, append(wild(), 0, 1, 2)...)
	wantDone(t, p, 0)
	p = ready(t, l(1), 10, 3)
	silent(t, p, append(wild(), 0, 1, 2)...)
	_, list := send(t, p, 0, 2, records("x"))
	want(t, list, produceAsk(1, 3, 2, 7, 0, 0, records("x")))
}
