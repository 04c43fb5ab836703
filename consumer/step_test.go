package consumer_test

import (
	"testing"

	"logboom/api"
	"logboom/consumer"
)

// ending are the errors that end any call.
func ending() []api.Errno {
	list := []api.Errno{
		api.ErrArg, api.ErrLong, api.ErrForm, api.ErrShort, api.ErrSum, api.ErrFull, api.ErrNone, api.ErrTwice, api.ErrRange, api.ErrOrder, api.ErrDuplicate,
		api.ErrFenced, api.ErrNewer, api.ErrInsync, api.ErrMember, api.ErrGen, api.ErrOver, api.ErrLate, api.ErrScript, 24,
	}
	for _, n := range wild() {
		list = append(list, api.Errno(n))
	}
	return list
}

// isPassing tells whether an error of a kind of call is waited behind.
func isPassing(kind int, err api.Errno) bool {
	switch kind {
	case consumer.Join, consumer.Leave, consumer.Commit, consumer.Offset:
		return err == api.ErrState
	}
	return kind == consumer.Create && err == api.ErrMany
}

// strangers are messages that are no answer to what was asked.
func strangers(m api.Msg) []api.Msg {
	a := full(m, api.OK)
	var list []api.Msg
	for _, n := range append(wild(), 0, 1, 2, 3, 4, 101, 102) {
		for _, x := range []struct {
			of *int
			is int
		}{{&a.Id, a.Id}, {&a.From, a.From}, {&a.To, a.To}} {
			if n != x.is {
				*x.of = n
				list = append(list, a)
				*x.of = x.is
			}
		}
	}
	for kind := -1; kind <= api.KindLast+1; kind++ {
		if kind != m.Kind+1 {
			a.Kind = kind
			list = append(list, a)
		}
	}
	return list
}

// ignores asks that nothing comes of messages.
func ignores(t *testing.T, c *consumer.Consumer, list ...api.Msg) {
	t.Helper()
	open := c.Open()
	for _, m := range list {
		step(t, c, 5, m)
		wantDone(t, c, open)
	}
}

// P19.3: what is no answer to what is open is passed over, whatever its error.
func TestStepOfStrangers(t *testing.T) {
	for _, s := range kinds() {
		c := made(t, l(1, 2), 10, 3)
		ignores(t, c, api.Msg{}, api.Msg{Kind: api.ReadTell}, tell(readAsk(1, 1, 2, 0), api.OK))
		m := call(t, c, 0, s)
		for _, err := range append(ending(), api.OK, api.ErrLeader, api.ErrCoord, api.ErrState, api.ErrMany) {
			for _, x := range strangers(m) {
				x.Err, x.Last = err, 2
				ignores(t, c, x)
			}
		}
		// Nor was it refused, nor did its time go on.
		if s.Kind != consumer.Read && s.Kind != consumer.Offset && s.Kind != consumer.Delete {
			silent(t, c, 9, 10)
			wantDone(t, c, 0, failed(1, api.ErrLate, s))
			ignores(t, c, tell(m, api.OK))
			continue
		}
		silent(t, c, 9)
		want(t, c.Tick(10), again(m, 2, 2))
		// The first number is answered no more.
		ignores(t, c, tell(m, api.OK), tell(again(m, 1, 2), api.OK), tell(again(m, 2, 1), api.ErrArg))
		// Which partition the answer names is not asked.
		a := tell(again(m, 2, 2), api.ErrArg)
		a.Part = 9
		step(t, c, 11, a)
		wantDone(t, c, 0, failed(1, api.ErrArg, s))
		ignores(t, c, a, tell(again(m, 2, 2), api.OK))
	}
}

// P19.3: of several calls the one ends whose request is answered.
func TestStepOfOneOfMany(t *testing.T) {
	c := made(t, l(1), 10, 3)
	var list []api.Msg
	for i := range 20 {
		list = append(list, call(t, c, 0, read(2, i)))
	}
	for k, i := range l(7, 0, 19, 11) {
		step(t, c, 1, tell(list[i], api.ErrRange))
		wantDone(t, c, 19-k, failed(i+1, api.ErrRange, read(2, i)))
		ignores(t, c, tell(list[i], api.OK))
	}
}

// P19.3: an error that does not pass ends the call, at once.
func TestStepOfErrors(t *testing.T) {
	for _, s := range kinds() {
		for _, err := range append(ending(), api.ErrState, api.ErrMany) {
			if isPassing(s.Kind, err) {
				continue
			}
			c := made(t, l(1, 2), 10, 3)
			m := call(t, c, 0, s)
			step(t, c, 1, full(m, err))
			wantDone(t, c, 0, failed(1, err, s))
			silent(t, c, 10, 100)
			// The aim stays.
			if m := call(t, c, 100, s); m.To != 1 || m.Id != 2 {
				t.Fatal(show([]api.Msg{m}))
			}
		}
	}
}

// P19.3: a coordinator that is not ready, and brokers of whom too few are up, are asked anew when time is up.
func TestStepOfPassingErrors(t *testing.T) {
	for _, s := range kinds() {
		for _, err := range []api.Errno{api.ErrState, api.ErrMany} {
			if !isPassing(s.Kind, err) {
				continue
			}
			c := made(t, l(1, 2), 10, 3)
			m := call(t, c, 0, s)
			step(t, c, 4, hint(m, err, 2))
			wantDone(t, c, 1)
			silent(t, c, 10, 13)
			// Its aim was not moved by the answer, but by its time.
			want(t, c.Tick(14), again(m, 2, 2))
			step(t, c, 20, full(again(m, 2, 2), err))
			step(t, c, 15, full(again(m, 2, 2), err)) // again, at another time
			silent(t, c, 24)
			want(t, c.Tick(25), again(m, 1, 3))
			step(t, c, 26, full(again(m, 1, 3), err))
			silent(t, c, 35)
			wantDone(t, c, 1)
			silent(t, c, 36) // no tries are left
			wantDone(t, c, 0, failed(1, api.ErrLate, s))
		}
	}
}

// P19.3: who does not lead, or does not coordinate, says who does: that one is asked a tick later; without a hint the next one, when time is up.
func TestStepOfHints(t *testing.T) {
	for _, x := range []struct{ last, due, to int }{
		{1, 6, 1}, {4, 6, 4}, {7, 6, 7}, {3, 6, 4}, // asked was 3
		{0, 15, 4}, {2, 15, 4}, {5, 15, 4}, {6, 15, 4}, {8, 15, 4}, {-1, 15, 4}, {101, 15, 4}, {1000000000, 15, 4},
	} {
		for _, s := range kinds() {
			for _, err := range []api.Errno{api.ErrLeader, api.ErrCoord} {
				c := made(t, l(1, 3, 4, 7), 10, 9)
				m := call(t, c, 0, s)
				step(t, c, 0, hint(m, err, 3))
				m = again(m, 3, 2)
				want(t, c.Tick(1), m)
				step(t, c, 5, hint(m, err, x.last))
				silent(t, c, x.due-1)
				m = again(m, x.to, 3)
				want(t, c.Tick(x.due), m)
				wantDone(t, c, 1)
				step(t, c, 5, tell(m, api.ErrArg))
				wantDone(t, c, 0, failed(1, api.ErrArg, s))
			}
		}
	}
}

// P19.3: behind the last broker comes the first one.
func TestStepWithoutHintGoesRound(t *testing.T) {
	c := made(t, l(2, 6), 10, 9)
	m := call(t, c, 0, read(2, 0))
	for i, to := range l(6, 2, 6, 2) {
		step(t, c, 0, hint(m, api.ErrLeader, 0))
		m = again(m, to, i+2)
		want(t, c.Tick(10), m)
	}
}

// P19.3: behind a refusal the number is the same: a second answer to it counts, until it is asked anew.
func TestStepBehindARefusal(t *testing.T) {
	c := made(t, l(1, 2, 3), 10, 5)
	commit := api.Seen{Kind: consumer.Commit, Name: "g", Part: 2, Offset: 4}
	m := call(t, c, 0, commit)
	step(t, c, 1, hint(m, api.ErrLeader, 3), hint(m, api.ErrCoord, 2))
	m = again(m, 2, 2)
	want(t, c.Tick(2), m)
	step(t, c, 3, hint(m, api.ErrCoord, 3), hint(m, api.ErrState, 0))
	silent(t, c, 4, 12)
	step(t, c, 3, tell(m, api.OK))
	wantDone(t, c, 0, returned(1, api.OK, commit))
	// A message that changes nothing of what was refused leaves it refused.
	m = call(t, c, 20, commit)
	step(t, c, 21, hint(m, api.ErrCoord, 1))
	ignores(t, c, strangers(m)...)
	asked(t, c.Tick(22)[0], again(m, 1, 4))
}
