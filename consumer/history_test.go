package consumer_test

import (
	"testing"

	"logboom/api"
	"logboom/consumer"
)

// history is what clients saw: calls and returns, in the order of time.
type history []api.Seen

// place is a good return, and its call.
type place struct {
	h        history
	from, at int
	s        api.Seen
}

// some tells whether there is a place from one on, ahead of another one, that is so.
func (h history) some(from, to int, is func(x api.Seen) bool) bool {
	for _, x := range h[from:to] {
		if is(x) {
			return true
		}
	}
	return false
}

func isGood(x api.Seen) bool { return x.Done && x.Err == api.OK }

func isRecord(x api.Seen) bool { return x.Kind == consumer.Send || x.Kind == consumer.Read }

func isMember(x api.Seen) bool { return x.Kind == consumer.Join || x.Kind == consumer.Leave }

// isCommit tells whether x is a commit of what p tells the offset of.
func (p place) isCommit(x api.Seen) bool {
	return x.Kind == consumer.Commit && x.Name == p.s.Name && x.Part == p.s.Part
}

// end is where a call returned, ahead of p; -1: nowhere.
func (p place) end(x api.Seen) int {
	for i, y := range p.h[:p.at] {
		if y.Done && y.Client == x.Client && y.Call == x.Call {
			return i
		}
	}
	return -1
}

// isNow tells whether what p tells may be what the call at i committed.
func (p place) isNow(i int) bool {
	end := p.end(p.h[i])
	if end < 0 || p.h[end].Err != api.OK {
		return true
	}
	// Nothing is told that was overwritten ahead of being asked for.
	for j := end + 1; j < p.from; j++ {
		if y := p.h[j]; !y.Done && p.isCommit(y) {
			if e := p.end(y); e >= 0 && e < p.from && p.h[e].Err == api.OK {
				return false
			}
		}
	}
	return true
}

// commit tells whether an offset that is told was never committed last.
func (p place) commit() bool {
	if p.s.Offset == -1 {
		return p.h.some(0, p.from, func(x api.Seen) bool { return isGood(x) && p.isCommit(x) })
	}
	for i, x := range p.h[:p.at] {
		if !x.Done && p.isCommit(x) && x.Offset == p.s.Offset && p.isNow(i) {
			return false
		}
	}
	return true
}

// order tells whether a sequence is not where it should be, beside another one.
func (p place) order(x api.Seen) bool {
	switch {
	case !isGood(x) || x.Kind != consumer.Send || x.Part != p.s.Part || x.Pid != p.s.Pid || x.PidEpoch != p.s.PidEpoch:
		return false
	case x.Seq < p.s.Seq:
		return x.Offset >= p.s.Offset
	case x.Seq > p.s.Seq:
		return x.Offset <= p.s.Offset
	}
	return true
}

// twice tells whether a text stands more often than it was sent.
func (p place) twice() bool {
	offsets, calls := map[int]bool{}, 0
	for i, x := range p.h[:p.at+1] {
		switch {
		case x.Part != p.s.Part || x.Text != p.s.Text || !isRecord(x):
		case isGood(x):
			offsets[x.Offset] = true
		case !x.Done && x.Kind == consumer.Send && i < p.at:
			calls++
		}
	}
	return len(offsets) > calls
}

// wrong is what is wrong at a place, by the model's words.
func (p place) wrong() string {
	s, from, at := p.s, p.from, p.at
	part := func(x api.Seen) bool { return x.Part == s.Part }
	switch {
	case isRecord(s) && p.h.some(0, at, func(x api.Seen) bool {
		return isGood(x) && isRecord(x) && part(x) && x.Offset == s.Offset && x.Text != s.Text
	}):
		return "value"
	case s.Kind == consumer.Send && p.h.some(0, at, func(x api.Seen) bool {
		return isGood(x) && x.Kind == consumer.Send && part(x) && x.Offset == s.Offset
	}):
		return "offset"
	case s.Kind == consumer.Read && !p.h.some(0, at, func(x api.Seen) bool {
		return !x.Done && x.Kind == consumer.Send && part(x) && x.Text == s.Text
	}):
		return "unsent"
	case isRecord(s) && p.twice():
		return "twice"
	case s.Kind == consumer.Send && p.h.some(0, at, p.order):
		return "order"
	case s.Kind == consumer.Read && p.h.some(0, from, func(x api.Seen) bool {
		return isGood(x) && x.Kind == consumer.Delete && part(x) && x.Offset > s.Offset
	}):
		return "deleted"
	case isMember(s) && p.h.some(0, at, func(x api.Seen) bool { return isGood(x) && isMember(x) && x.Name == s.Name && x.Seq == s.Seq }):
		return "generation"
	case isMember(s) && p.h.some(0, from, func(x api.Seen) bool { return isGood(x) && isMember(x) && x.Name == s.Name && x.Seq > s.Seq }):
		return "generation"
	case s.Kind == consumer.Commit && p.h.some(0, from, func(x api.Seen) bool {
		return isGood(x) && isMember(x) && x.Name == s.Name && x.Seq > s.Seq
	}):
		return "fenced"
	case s.Kind == consumer.Offset && p.commit():
		return "commit"
	}
	return ""
}

// wrong is the first place of a history that is wrong, and why; -1: there is none.
func (h history) wrong() (int, string) {
	calls, returned := map[[2]int]int{}, map[[2]int]bool{}
	for i, s := range h {
		key := [2]int{s.Client, s.Call}
		from, ok := calls[key]
		if s.Done != ok || returned[key] {
			return i, "call"
		}
		if !s.Done {
			calls[key] = i
			continue
		}
		returned[key] = true
		if x := h[from]; x.Kind != s.Kind || x.Part != s.Part || x.Name != s.Name {
			return i, "call"
		}
		if s.Err != api.OK {
			continue
		}
		if why := (place{h, from, i, s}).wrong(); why != "" {
			return i, why
		}
	}
	return -1, ""
}

// What is wrong in a history is found, so that a world's history is held against something.
func TestHistory(t *testing.T) {
	call := func(client, call, kind, part, offset, seq int, text string) api.Seen {
		return api.Seen{Client: client, Call: call, Kind: kind, Part: part, Offset: offset, Seq: seq, Text: text}
	}
	end := func(client, n, kind, part, offset, seq int, text string) api.Seen {
		s := call(client, n, kind, part, offset, seq, text)
		s.Done = true
		return s
	}
	late := func(s api.Seen) api.Seen {
		s.Err = api.ErrLate
		return s
	}
	send, sent := call(101, 1, 10, 2, 0, 0, "x"), end(101, 1, 10, 2, 0, 0, "x")
	again := call(101, 2, 10, 2, 0, 0, "y")
	ask, got := call(201, 1, 1, 2, 0, 0, ""), end(201, 1, 1, 2, 0, 0, "x")
	join, joined := call(201, 2, 2, 3, 0, 0, ""), end(201, 2, 2, 3, 0, 5, "")
	commit, committed := call(201, 3, 4, 2, 7, 4, ""), end(201, 3, 4, 2, 7, 4, "")
	newer, newest := call(201, 4, 4, 2, 8, 5, ""), end(201, 4, 4, 2, 8, 5, "")
	offset := call(202, 1, 5, 2, 0, 0, "")
	for _, c := range []struct {
		h   history
		at  int
		why string
	}{
		{history{send, sent, ask, got}, -1, ""},
		{history{send, sent, ask, end(201, 1, 1, 2, 0, 0, "y")}, 3, "value"},
		{history{ask, got}, 1, "unsent"},
		{history{send, sent, sent}, 2, "call"},
		{history{send, send}, 1, "call"},
		{history{sent}, 0, "call"},
		{history{send, sent, ask, end(201, 1, 1, 2, 1, 0, "x")}, 3, "twice"},
		{history{send, sent, again, end(101, 2, 10, 2, 0, 1, "x")}, 3, "offset"},
		{history{send, sent, again, end(101, 2, 10, 2, 1, 0, "y")}, 3, "order"},
		{history{send, sent, again, end(101, 2, 10, 2, 1, 1, "y")}, -1, ""},
		{history{send, sent, call(202, 1, 6, 2, 1, 0, ""), end(202, 1, 6, 2, 1, 0, ""), ask, got}, 5, "deleted"},
		{history{send, sent, ask, call(202, 1, 6, 2, 1, 0, ""), end(202, 1, 6, 2, 1, 0, ""), got}, -1, ""},
		{history{join, joined, call(202, 1, 3, 3, 0, 0, ""), end(202, 1, 3, 3, 0, 5, "")}, 3, "generation"},
		{history{join, joined, call(202, 1, 3, 3, 0, 0, ""), end(202, 1, 3, 3, 0, 4, "")}, 3, "generation"},
		{history{join, call(202, 1, 3, 3, 0, 0, ""), joined, end(202, 1, 3, 3, 0, 4, "")}, -1, ""},
		{history{join, joined, commit, committed}, 3, "fenced"},
		{history{join, commit, joined, committed}, -1, ""},
		{history{commit, committed, offset, end(202, 1, 5, 2, -1, 0, "")}, 3, "commit"},
		{history{commit, committed, offset, end(202, 1, 5, 2, 8, 0, "")}, 3, "commit"},
		{history{commit, committed, offset, end(202, 1, 5, 2, 7, 0, "")}, -1, ""},
		{history{commit, committed, newer, newest, offset, end(202, 1, 5, 2, 7, 0, "")}, 5, "commit"},
		{history{commit, newer, committed, newest, offset, end(202, 1, 5, 2, 7, 0, "")}, -1, ""},
		{history{commit, late(committed), newer, newest, offset, end(202, 1, 5, 2, 7, 0, "")}, -1, ""},
		{history{commit, late(committed), offset, end(202, 1, 5, 2, -1, 0, "")}, -1, ""},
	} {
		if at, why := c.h.wrong(); at != c.at || why != c.why {
			t.Errorf("%+v: %d %q, not %d %q", c.h, at, why, c.at, c.why)
		}
	}
}
