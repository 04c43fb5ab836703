package producer_test

import (
	"testing"

	"logboom/api"
	"logboom/producer"
)

// passing are the errors that pass by themselves.
func passing() []api.Errno {
	return []api.Errno{api.ErrInsync, api.ErrFull, api.ErrMany, api.ErrState, api.ErrNewer}
}

// ending are the errors that end what was asked.
func ending() []api.Errno {
	list := []api.Errno{
		api.ErrArg, api.ErrLong, api.ErrForm, api.ErrShort, api.ErrSum, api.ErrNone, api.ErrTwice, api.ErrRange, api.ErrOrder, api.ErrDuplicate,
		api.ErrFenced, api.ErrMember, api.ErrGen, api.ErrOver, api.ErrLate, api.ErrCoord, api.ErrScript, 24,
	}
	for _, n := range wild() {
		list = append(list, api.Errno(n))
	}
	return list
}

// strangers are messages that are no answer to what was asked.
func strangers(m api.Msg) []api.Msg {
	a := tell(m, api.OK, 3)
	var list []api.Msg
	for _, n := range append(wild(), 0, 1, 2, 3, 4, 101, 102) {
		for _, x := range []struct {
			of *int
			is int
		}{{&a.Id, a.Id}, {&a.From, a.From}, {&a.To, a.To}} {
			if n != x.is {
				*x.of = n
				list = append(list, a)
				*x.of = x.is
			}
		}
	}
	for kind := -1; kind <= api.KindLast+1; kind++ {
		if kind != m.Kind+1 {
			a.Kind = kind
			list = append(list, a)
		}
	}
	return list
}

// ignores asks that nothing comes of messages.
func ignores(t *testing.T, p *producer.Producer, list []api.Msg) {
	t.Helper()
	open := p.Open()
	pid, epoch := p.Id()
	for _, m := range list {
		if got := p.Step(5, m); len(got) != 0 {
			t.Fatalf("of\n%stold is\n%s", show([]api.Msg{m}), show(got))
		}
		wantDone(t, p, open)
		wantId(t, p, pid, epoch)
	}
}

// P18.3: what is no answer to what is under way is passed over, whatever its error.
func TestStepOfStrangers(t *testing.T) {
	p := made(t, 101, l(1, 2), 10, 3)
	ignores(t, p, strangers(pidAsk(1, 1, 0)))
	ignores(t, p, []api.Msg{{}, tell(pidAsk(1, 1, 0), api.OK, 3), tell(produceAsk(1, 1, 2, 0, 0, 0, nil), api.OK, 3)})
	send(t, p, 0, 2, records("x"))
	for _, err := range append(ending(), api.OK, api.ErrLeader, api.ErrState) {
		for _, m := range strangers(pidAsk(1, 1, 0)) {
			m.Err, m.Last = err, 2
			ignores(t, p, []api.Msg{m})
		}
	}
	want(t, p.Tick(10), pidAsk(2, 2, 0))
	// The first number is answered no more.
	ignores(t, p, []api.Msg{tell(pidAsk(1, 1, 0), api.OK, 3), tell(pidAsk(1, 2, 0), api.OK, 3), tell(pidAsk(2, 1, 0), api.OK, 3)})
	asked := produceAsk(1, 3, 2, 7, 0, 0, records("x"))
	want(t, p.Step(10, tell(pidAsk(2, 2, 0), api.OK, 7)), asked)
	ignores(t, p, []api.Msg{tell(pidAsk(2, 2, 0), api.OK, 8), tell(pidAsk(2, 2, 0), api.ErrArg, 0)})
	ignores(t, p, strangers(asked))
	want(t, p.Tick(20), produceAsk(2, 4, 2, 7, 0, 0, records("x")))
	ignores(t, p, []api.Msg{tell(asked, api.OK, 3)})
	asked.Id, asked.To = 4, 2
	// Which partition the answer names is not asked.
	a := tell(asked, api.OK, 3)
	a.Part = 9
	want(t, p.Step(20, a))
	wantDone(t, p, 0, returned(1, 2, "x", api.OK, 3, 7, 0, 0))
	ignores(t, p, []api.Msg{a, tell(asked, api.ErrArg, 0)})
	_, list := send(t, p, 21, 2, records("y"))
	want(t, list, produceAsk(2, 5, 2, 7, 0, 1, records("y")))
}

// P18.3: the answers for the PID, at first, and later, when it is the EPOCH that is told.
func TestStepOfThePid(t *testing.T) {
	for _, n := range append(wild(), 0, 1, 7) {
		p := made(t, 101, l(1), 10, 3)
		x := records("x")
		_, list := send(t, p, 0, 2, x)
		list = p.Step(1, tell(list[0], api.OK, n))
		want(t, list, produceAsk(1, 2, 2, n, 0, 0, x))
		wantId(t, p, n, 0)
		list = p.Step(1, tell(list[0], api.OK, 0))
		want(t, list)
		_, list = send(t, p, 0, 2, x)
		want(t, list, produceAsk(1, 3, 2, n, 0, 1, x))
		want(t, p.Step(1, tell(list[0], api.ErrOrder, 0)))
		_, list = send(t, p, 0, 2, x)
		want(t, list, pidAsk(1, 4, n))
		list = p.Step(1, tell(list[0], api.OK, 5))
		if n == 0 { // there was none
			wantId(t, p, 5, 0)
			want(t, list, produceAsk(1, 5, 2, 5, 0, 0, x))
		} else {
			wantId(t, p, n, 5)
			want(t, list, produceAsk(1, 5, 2, n, 5, 0, x))
		}
	}
	for _, n := range append(wild(), 0, 1) {
		p := ready(t, l(1), 10, 3)
		_, list := send(t, p, 0, 2, records("x"))
		p.Step(1, tell(list[0], api.ErrOrder, 0))
		_, list = send(t, p, 0, 16, records("y"))
		list = p.Step(1, tell(list[0], api.OK, n))
		// The sequences of 16 begin anew.
		want(t, list, produceAsk(1, 5, 16, 7, n, 0, records("y")))
		wantId(t, p, 7, n)
	}
}

// P18.3: an error that ends the asking for the PID ends all calls, and the next call asks anew.
func TestStepOfThePidsErrors(t *testing.T) {
	for _, err := range ending() {
		p := ready(t, l(1), 10, 3)
		_, list := send(t, p, 0, 2, records("x"))
		want(t, p.Step(1, tell(list[0], api.ErrOrder, 0)))
		wantDone(t, p, 0, returned(2, 2, "x", api.ErrOrder, 0, 7, 0, 0))
		send(t, p, 1, 2, records("a"))
		send(t, p, 1, 9, records("b", "c"))
		send(t, p, 1, 2, records("d"))
		want(t, p.Step(1, tell(pidAsk(1, 4, 7), err, 3)))
		wantDone(t, p, 0, returned(3, 2, "a", err, 0, 0, 0, 0), returned(4, 9, "b", err, 0, 0, 0, 0), returned(5, 2, "d", err, 0, 0, 0, 0))
		wantId(t, p, 7, 0)
		silent(t, p, 2, 100)
		_, list = send(t, p, 101, 2, records("e"))
		want(t, list, pidAsk(1, 5, 7))
	}
}

// P18.3: a call's answer ends it, well or with the error; what waits behind it goes on, or waits for a new EPOCH.
func TestStepOfACall(t *testing.T) {
	for _, n := range append(wild(), 0, 1) {
		p := ready(t, l(1), 10, 3)
		send(t, p, 0, 2, records("x", "y", "z"))
		send(t, p, 0, 2, records("w"))
		want(t, p.Step(1, tell(produceAsk(1, 3, 2, 0, 0, 0, nil), api.OK, n)), produceAsk(1, 4, 2, 7, 0, 3, records("w")))
		wantDone(t, p, 1, returned(2, 2, "x", api.OK, n, 7, 0, 0))
	}
	for _, err := range ending() {
		p := ready(t, l(1), 10, 3)
		send(t, p, 0, 2, records("x", "y", "z"))
		send(t, p, 0, 2, records("w"))
		send(t, p, 0, 3, records("v"))
		want(t, p.Step(1, tell(produceAsk(1, 3, 2, 0, 0, 0, nil), err, 9)))
		wantDone(t, p, 2, returned(2, 2, "x", err, 0, 7, 0, 0))
		// What else is under way is waited for; nothing new is asked for.
		_, list := send(t, p, 1, 4, records("u"))
		want(t, list)
		want(t, p.Step(2, tell(produceAsk(1, 4, 3, 0, 0, 0, nil), err, 9)), pidAsk(1, 5, 7))
		wantDone(t, p, 2, returned(4, 3, "v", err, 0, 7, 0, 0))
		want(t, p.Step(3, tell(pidAsk(1, 5, 7), api.OK, 2)), produceAsk(1, 6, 2, 7, 2, 0, records("w")), produceAsk(1, 7, 4, 7, 2, 0, records("u")))
	}
}

// P18.3: an error that passes leaves what was asked as it is, its deadline and its aim, too.
func TestStepOfPassingErrors(t *testing.T) {
	for _, err := range passing() {
		p := made(t, 101, l(1, 2), 10, 2)
		x := records("x")
		_, list := send(t, p, 0, 2, x)
		a := tell(list[0], err, 3)
		a.Last = 2
		ignores(t, p, []api.Msg{a, a})
		silent(t, p, 9)
		want(t, p.Tick(10), pidAsk(2, 2, 0))
		// It may be answered later all the same.
		ignores(t, p, []api.Msg{tell(pidAsk(2, 2, 0), err, 0)})
		asked := produceAsk(1, 3, 2, 7, 0, 0, x)
		want(t, p.Step(11, tell(pidAsk(2, 2, 0), api.OK, 7)), asked)
		a = tell(asked, err, 3)
		a.Last = 2
		want(t, p.Step(12, a))
		silent(t, p, 20)
		want(t, p.Tick(21), produceAsk(2, 4, 2, 7, 0, 0, x))
		want(t, p.Step(22, tell(produceAsk(2, 4, 2, 0, 0, 0, nil), err, 0)))
		silent(t, p, 30)
		wantDone(t, p, 1)
		silent(t, p, 31)
		wantDone(t, p, 0, returned(1, 2, "x", api.ErrLate, 0, 7, 0, 0))
	}
}

// P18.3: who does not lead says who does: that one is asked a tick later; without a hint the next one, when time is up.
func TestStepOfHints(t *testing.T) {
	for _, c := range []struct{ last, due, to int }{
		{1, 6, 1}, {4, 6, 4}, {7, 6, 7}, {3, 6, 4}, // asked was 3
		{0, 15, 4}, {2, 15, 4}, {5, 15, 4}, {6, 15, 4}, {8, 15, 4}, {-1, 15, 4}, {101, 15, 4},
	} {
		p := made(t, 101, l(1, 3, 4, 7), 10, 9)
		x := records("x")
		send(t, p, 0, 2, x)
		p.Tick(0)
		first := p.Tick(10)
		want(t, first, pidAsk(3, 2, 0))
		want(t, p.Step(5, hint(first[0], c.last)))
		silent(t, p, c.due-1)
		second := p.Tick(c.due)
		want(t, second, pidAsk(c.to, 3, 0))
		// The PID's aim is none of a partition's.
		list := p.Step(5, tell(second[0], api.OK, 7))
		want(t, list, produceAsk(1, 4, 2, 7, 0, 0, x))
		list = p.Tick(15)
		want(t, list, produceAsk(3, 5, 2, 7, 0, 0, x))
		want(t, p.Step(5, hint(list[0], c.last)))
		silent(t, p, c.due-1)
		list = p.Tick(c.due)
		want(t, list, produceAsk(c.to, 6, 2, 7, 0, 0, x))
		want(t, p.Step(5, tell(list[0], api.OK, 0)))
		// A partition's aim is none of another one's; it stays.
		_, list = send(t, p, 5, 3, x)
		want(t, list, produceAsk(1, 7, 3, 7, 0, 0, x))
		_, list = send(t, p, 5, 2, x)
		want(t, list, produceAsk(c.to, 8, 2, 7, 0, 1, x))
	}
}

// P18.3: behind a hint the number is the same: a second answer to it counts, until it is asked anew.
func TestStepBehindAHint(t *testing.T) {
	p := ready(t, l(1, 2, 3), 10, 3)
	x := records("x")
	_, list := send(t, p, 0, 2, x)
	want(t, p.Step(1, hint(list[0], 3)))
	want(t, p.Step(1, hint(list[0], 2)))
	want(t, p.Tick(2), produceAsk(2, 4, 2, 7, 0, 0, x))
	want(t, p.Step(3, hint(produceAsk(2, 4, 2, 0, 0, 0, nil), 3)))
	want(t, p.Step(3, hint(produceAsk(2, 4, 2, 0, 0, 0, nil), 0)))
	silent(t, p, 4, 12)
	want(t, p.Step(3, tell(produceAsk(2, 4, 2, 0, 0, 0, nil), api.OK, 5)))
	wantDone(t, p, 0, returned(2, 2, "x", api.OK, 5, 7, 0, 0))
}

// P18.3: hints cost tries as silence does: without one left the call is late.
func TestHintsCostTries(t *testing.T) {
	p := ready(t, l(1, 2), 10, 2)
	x := records("x")
	_, list := send(t, p, 0, 2, x)
	want(t, p.Step(0, hint(list[0], 2)))
	list = p.Tick(1)
	want(t, list, produceAsk(2, 4, 2, 7, 0, 0, x))
	want(t, p.Step(1, hint(list[0], 1)))
	silent(t, p, 1)
	wantDone(t, p, 1)
	silent(t, p, 2)
	wantDone(t, p, 0, returned(2, 2, "x", api.ErrLate, 0, 7, 0, 0))
	// The aim is where the last hint told.
	_, list = send(t, p, 3, 2, x)
	want(t, p.Step(3, tell(list[0], api.OK, 1)), produceAsk(1, 6, 2, 7, 1, 0, x))
}
