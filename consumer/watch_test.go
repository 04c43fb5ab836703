package consumer_test

import (
	"slices"
	"testing"

	"logboom/api"
	"logboom/consumer"
)

// item is a call as it was handed in, and what became of it.
type item struct {
	seen    api.Seen
	asked   api.Msg // the last time
	times   int
	refused bool // since
	until   int  // no longer does it wait
	gone    bool
}

// watch is a consumer, and what must be so of all its calls (P19.5).
type watch struct {
	t                  *testing.T
	c                  *consumer.Consumer
	id, wait, tries    int
	brokers            []int
	calls              []*item
	numbers            map[int]bool   // by which something was asked
	told               func(api.Seen) // what it hands in, and what returns
	late, out, refused int            // calls that ended with ErrLate, those of them that had no tries left, refusals
}

func newWatch(t *testing.T, id int, brokers []int, wait, tries int, told func(api.Seen)) *watch {
	t.Helper()
	c, e := consumer.New(id, brokers, wait, tries)
	if e != api.OK {
		t.Fatal(e)
	}
	return &watch{t: t, c: c, id: id, wait: wait, tries: tries, brokers: brokers, numbers: map[int]bool{}, told: told}
}

// open are the calls that did not return.
func (w *watch) open() []*item {
	var list []*item
	for _, x := range w.calls[max(0, len(w.calls)-500):] {
		if !x.gone {
			list = append(list, x)
		}
	}
	return list
}

// begin has a call begin, if there is room.
func (w *watch) begin(now int, s api.Seen) []api.Msg {
	w.t.Helper()
	n, list, e := w.c.Call(now, s)
	if e == api.ErrMany && len(w.open()) == 20 {
		return nil
	}
	if e != api.OK || n != len(w.calls)+1 || len(list) != 1 {
		w.t.Fatalf("of %+v told is %d %v\n%s", s, n, e, show(list))
	}
	x := &item{seen: s}
	x.seen.Client, x.seen.Call = w.id, n
	w.calls = append(w.calls, x)
	w.told(x.seen)
	w.asks(now, x, list[0])
	w.ended(0)
	return list
}

// asks is a message by which a call is asked for: at first, or, of what may change something, when it was refused.
func (w *watch) asks(now int, x *item, m api.Msg) {
	w.t.Helper()
	if x.times > 0 {
		asked(w.t, m, again(x.asked, m.To, m.Id))
		if k := x.seen.Kind; !x.refused && k != consumer.Read && k != consumer.Offset && k != consumer.Delete {
			w.t.Fatalf("asked anew is %+v", x.seen)
		}
	}
	if m.From != w.id || w.numbers[m.Id] {
		w.t.Fatalf("asked is\n%s", show([]api.Msg{m}))
	}
	w.numbers[m.Id] = true
	x.asked, x.refused, x.until = m, false, now+w.wait
	if x.times++; x.times > w.tries {
		w.t.Fatalf("%d times asked is %+v", x.times, x.seen)
	}
}

// ended are so many calls, which return: once each, as they were asked for.
func (w *watch) ended(most int) []api.Seen {
	w.t.Helper()
	list := w.c.Done()
	for _, s := range list {
		x := w.calls[s.Call-1]
		if x.gone || !s.Done || s.Client != w.id || s.Kind != x.seen.Kind || s.Part != x.seen.Part || s.Name != x.seen.Name {
			w.t.Fatalf("told is %+v of %+v", s, x.seen)
		}
		x.gone = true
		w.told(s)
	}
	if n := len(w.open()); len(list) > most || n != w.c.Open() {
		w.t.Fatalf("told are %d calls and not %d, open are %d and not %d", len(list), most, w.c.Open(), n)
	}
	return list
}

// Tick is a time: what waited for so long is asked anew, or ends.
func (w *watch) tick(now int) []api.Msg {
	w.t.Helper()
	var due []*item
	for _, x := range w.open() {
		if x.until <= now {
			due = append(due, x)
		}
	}
	list := w.c.Tick(now)
	for _, s := range w.ended(len(due)) {
		if s.Err != api.ErrLate {
			w.t.Fatalf("told is %+v", s)
		}
		w.late++
	}
	rest := list
	for _, x := range due {
		switch {
		case !x.gone && len(rest) == 0:
			w.t.Fatalf("at %d there comes nothing of %+v", now, x.seen)
		case !x.gone:
			w.asks(now, x, rest[0])
			rest = rest[1:]
		case x.times == w.tries:
			w.out++
		}
	}
	if len(rest) > 0 {
		w.t.Fatalf("at %d asked is\n%s", now, show(rest))
	}
	return list
}

// Step is a message: the answer of one call, or of none.
func (w *watch) step(now int, m api.Msg) []api.Msg {
	w.t.Helper()
	var of *item
	for _, x := range w.open() {
		if a := tell(x.asked, m.Err); a.Kind == m.Kind && a.Id == m.Id && a.From == m.From && a.To == m.To {
			of = x
		}
	}
	want(w.t, w.c.Step(now, m))
	if of == nil {
		w.ended(0)
		return nil
	}
	for _, s := range w.ended(1) {
		none := s.Kind == consumer.Read && m.Err == api.OK && s.Err == api.ErrNone
		if s.Call != of.seen.Call || s.Err != m.Err && !none {
			w.t.Fatalf("told is %+v of %+v by\n%s", s, of.seen, show([]api.Msg{m}))
		}
	}
	if !of.gone {
		of.refused, of.until = true, now+w.wait
		w.refused++
		if m.Err == api.OK {
			w.t.Fatalf("%+v goes on", of.seen)
		}
		if (m.Err == api.ErrLeader || m.Err == api.ErrCoord) && slices.Contains(w.brokers, m.Last) {
			of.until = now + 1
		}
	}
	return nil
}

// P19.5: without answers, and with refusals as late as they may come, each call ends in time, and once.
func TestEndsInTime(t *testing.T) {
	for _, s := range kinds() {
		harmless := s.Kind == consumer.Read || s.Kind == consumer.Offset || s.Kind == consumer.Delete
		for _, c := range []struct {
			err   api.Errno
			last  int
			times int // that it is asked
			ticks int // till it ends
		}{
			// OK: nobody answers.
			{api.ErrLeader, 0, 4, 4 * (6 + 7)}, {api.ErrLeader, 3, 4, 4 * (6 + 1)}, {api.ErrCoord, 9, 4, 4 * (6 + 7)}, {api.OK, 0, 1, 7},
		} {
			var history []api.Seen
			w := newWatch(t, 201, l(1, 3, 5), 7, 4, func(s api.Seen) { history = append(history, s) })
			asked, now := w.begin(0, s), 0
			times := 1
			if c.err == api.OK && harmless {
				c.times, c.ticks = 4, 4*7
			}
			for sent := now; w.c.Open() > 0; {
				if now++; now > 1000 {
					t.Fatalf("%+v never ends", s)
				}
				if c.err != api.OK && now == sent+6 {
					w.step(now, hint(asked[0], c.err, c.last))
				}
				if list := w.tick(now); len(list) > 0 {
					asked, sent = list, now
					times++
				}
			}
			last := history[len(history)-1]
			if times != c.times || now != c.ticks || len(history) != 2 || last.Err != api.ErrLate {
				t.Errorf("%d %v: asked %d times, ended at %d: %+v", s.Kind, c.err, times, now, history)
			}
			w.step(now, hint(asked[0], c.err, c.last))
			if w.tick(now + 100); len(history) != 2 {
				t.Errorf("%+v", history)
			}
		}
	}
}
