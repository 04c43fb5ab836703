package asker

import (
	"math"
	"reflect"
	"testing"

	"logboom/api"
)

func l(list ...int) []int { return list }

// made is the asker 101, which waits 10 ticks, and tries 3 times, with two aims.
func made(t *testing.T, brokers ...int) Asker {
	t.Helper()
	a, e := New(101, brokers, 10, 3, 2)
	if e != api.OK {
		t.Fatal(e)
	}
	return a
}

// sent holds a message against whom it should go to, and by which number.
func sent(t *testing.T, m api.Msg, to, id int) {
	t.Helper()
	if !reflect.DeepEqual(m, api.Msg{Kind: api.ReadAsk, From: 101, To: to, Id: id, Part: 5}) {
		t.Fatalf("to %d, %d: %+v", to, id, m)
	}
}

func TestNew(t *testing.T) {
	for _, c := range []struct {
		id          int
		brokers     []int
		wait, tries int
		err         api.Errno
	}{
		{101, l(1), 1, 1, api.OK}, {999, l(1, 2, 3, 4, 5, 6, 7), api.MaxTick, 1000, api.OK},
		{100, l(1), 1, 1, api.ErrArg}, {1000, l(1), 1, 1, api.ErrArg},
		{101, nil, 1, 1, api.ErrArg}, {101, l(0), 1, 1, api.ErrArg}, {101, l(8), 1, 1, api.ErrArg}, {101, l(2, 2), 1, 1, api.ErrArg}, {101, l(3, 2), 1, 1, api.ErrArg},
		{101, l(1), 0, 1, api.ErrArg}, {101, l(1), api.MaxTick + 1, 1, api.ErrArg}, {101, l(1), 1, 0, api.ErrArg}, {101, l(1), 1, 1001, api.ErrArg},
	} {
		a, e := New(c.id, c.brokers, c.wait, c.tries, 3)
		if e != c.err {
			t.Error(c, e)
		}
		if e == api.OK && (a.Id() != c.id || a.Room() != 20) || e != api.OK && a.Room() != 0 {
			t.Error(c, a.Id(), a.Room())
		}
	}
}

// What is asked goes to whom the aim tells, by one number behind the other, as often as there are tries.
func TestAsk(t *testing.T) {
	a := made(t, 2, 4, 7)
	m := api.Msg{Kind: api.ReadAsk, Part: 5}
	r, s := a.Begin(1), a.Begin(0)
	for i, c := range []struct{ now, to int }{{0, 2}, {30, 4}, {50, 7}} {
		if !r.HasTries() || r.Aim() != 1 {
			t.Fatal(i, r)
		}
		sent(t, a.Ask(c.now, &r, m), c.to, i+1)
		if r.IsDue(c.now+9) || !r.IsDue(c.now+10) {
			t.Fatal(i, r)
		}
		a.Turn(&r)
	}
	if r.HasTries() {
		t.Error(r)
	}
	sent(t, a.Ask(60, &s, m), 2, 4)
	a.Turn(&r)
	a.Wait(70, &s)
	if s.IsDue(79) || !s.IsDue(80) {
		t.Error(s)
	}
	// Round and round, but no further than one behind who was asked.
	q := a.Begin(1)
	sent(t, a.Ask(60, &q, m), 2, 5)
}

// A hint aims at its broker, one that is none at the next one; an aim that was turned by an answer stays.
func TestTurnBy(t *testing.T) {
	for _, c := range []struct{ hint, to, due int }{{2, 2, 6}, {4, 4, 6}, {7, 7, 6}, {0, 4, 15}, {3, 4, 15}, {101, 4, 15}, {-1, 4, 15}} {
		a := made(t, 2, 4, 7)
		m := api.Msg{Kind: api.ReadAsk, Part: 5}
		r := a.Begin(0)
		sent(t, a.Ask(0, &r, m), 2, 1)
		a.TurnBy(5, &r, c.hint)
		if r.IsDue(c.due-1) || !r.IsDue(c.due) {
			t.Error(c, r)
		}
		a.Turn(&r)
		if c.hint == 2 {
			c.to = 4
		}
		sent(t, a.Ask(5, &r, m), c.to, 2)
	}
}

// Behind the greatest number comes 1.
func TestNumbersGoRound(t *testing.T) {
	a := made(t, 1)
	a.number = api.MaxOffset - 1
	r := a.Begin(0)
	for i, id := range l(api.MaxOffset, 1, 2) {
		sent(t, a.Ask(i, &r, api.Msg{Kind: api.ReadAsk, Part: 5}), 1, id)
	}
}

// Ticks go round.
func TestTicksGoRound(t *testing.T) {
	a := made(t, 1)
	r := a.Begin(0)
	a.Ask(math.MaxInt-3, &r, api.Msg{Kind: api.ReadAsk})
	if r.IsDue(math.MinInt+5) || !r.IsDue(math.MinInt+6) {
		t.Error(r)
	}
	a.TurnBy(math.MaxInt, &r, 1)
	if !r.IsDue(math.MinInt) {
		t.Error(r)
	}
}

// An answer has the number, the ends and the kind of what was sent last.
func TestIsAnswer(t *testing.T) {
	a := made(t, 2, 4)
	r := a.Begin(0)
	m := a.Ask(0, &r, api.Msg{Kind: api.ReadAsk, Part: 5, Ints: l(1)})
	right := api.Msg{Kind: api.ReadTell, From: 2, To: 101, Id: 1, Part: 9, Err: api.ErrArg}
	if !r.IsAnswer(right) || r.IsAnswer(m) || r.IsAnswer(api.Msg{}) {
		t.Error(r)
	}
	for i := range 4 {
		x := right
		*[]*int{&x.Kind, &x.From, &x.To, &x.Id}[i]++
		if r.IsAnswer(x) {
			t.Error(x)
		}
	}
	a.Ask(0, &r, m)
	if r.IsAnswer(right) {
		t.Error("the first number is answered")
	}
}
