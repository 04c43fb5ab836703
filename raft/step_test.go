package raft_test

import (
	"fmt"
	"math"
	"slices"
	"strings"
	"testing"

	"logboom/api"
)

// R3

// roles is a node, 2 of 1 2 3, as a follower, a candidate and a leader, each in the term 5, behind some.
func roles(t *testing.T) map[string]home {
	t.Helper()
	f := at(t, some.with(5, 0), 10, 2, 1, 2, 3)
	f.Step(0, api.Msg{Kind: api.AppendAsk, From: 1, To: 2, Term: 5, Index: 7, Last: 4})
	c := at(t, some, 10, 2, 1, 2, 3)
	c.stands(t)
	l := at(t, some, 10, 2, 1, 2, 3)
	l.led(t, 1)
	f.wantSeen(t, "follower", seen{false, 1, 5, 3})
	c.wantSeen(t, "candidate", seen{false, 0, 5, 3})
	l.wantSeen(t, "leader", seen{true, 2, 5, 3})
	return map[string]home{"follower": f, "candidate": c, "leader": l}
}

// Messages that are not for the node, not of another voter, of no such kind, or of a term below 0, do nothing.
func TestMessagesThatArePassedOver(t *testing.T) {
	for role, h := range roles(t) {
		for _, m := range []api.Msg{
			{From: 1, To: 1}, {From: 1, To: 3}, {From: 1, To: 0}, {From: 1, To: -2}, {From: 1, To: math.MaxInt},
			{From: 2, To: 2}, {From: 0, To: 2}, {From: 4, To: 2}, {From: 7, To: 2}, {From: 8, To: 2}, {From: -1, To: 2}, {From: math.MinInt, To: 2}, {From: math.MaxInt, To: 2}, {From: 101, To: 2},
		} {
			for kind := api.VoteAsk; kind <= api.SnapTell; kind++ {
				for _, term := range []int{0, 4, 5, 6, most} {
					m.Kind, m.Term, m.Index, m.Last = kind, term, 9, 9
					h.wantStill(t, fmt.Sprint(role, m), func() []api.Msg { return h.Step(11, m) })
				}
			}
		}
		for _, kind := range []int{0, -1, 7, 8, 9, 28, 29, math.MinInt, math.MaxInt} {
			for _, term := range []int{0, 4, 5, 6, most} {
				m := ask(kind, 3, 2, term)
				h.wantStill(t, fmt.Sprint(role, m), func() []api.Msg { return h.Step(11, m) })
			}
		}
		for kind := api.VoteAsk; kind <= api.SnapTell; kind++ {
			for _, term := range []int{-1, -2, -most, math.MinInt} {
				m := ask(kind, 3, 2, term)
				h.wantStill(t, fmt.Sprint(role, m), func() []api.Msg { return h.Step(11, m) })
			}
		}
	}
}

// A term that is past is refused, where an answer is waited for.
func TestAnOlderTerm(t *testing.T) {
	for role, h := range roles(t) {
		for _, term := range []int{0, 1, 4} {
			for kind := api.VoteAsk; kind <= api.SnapTell; kind++ {
				for _, e := range []api.Errno{api.OK, api.ErrOrder, api.ErrState} {
					m := api.Msg{Kind: kind, From: 3, To: 2, Id: 7, Part: 9, Term: term, Index: 8, Last: 9, High: 8, Err: e, Entries: row(8, 1, 9), Text: "x"}
					what := fmt.Sprint(role, m)
					h.wantStill(t, what, func() []api.Msg {
						got := h.Step(11, m)
						if kind%2 == 0 {
							return got
						}
						wantMsgs(t, what, got, api.Msg{Kind: kind + 1, From: 2, To: 3, Term: 5, Err: api.ErrFenced})
						return nil
					})
				}
			}
		}
	}
}

// A later term is taken by every kind of message, and whoever led, or stood, in the one ahead, does so no more.
func TestALaterTerm(t *testing.T) {
	for kind := api.VoteAsk; kind <= api.SnapTell; kind++ {
		for _, term := range []int{6, 7, most} {
			for role, h := range roles(t) {
				was := keptBy(h.log)
				got := h.Step(11, api.Msg{Kind: kind, From: 3, To: 2, Term: term, Index: -1, Err: api.ErrState})
				what := fmt.Sprint(role, kind, term)
				want := seen{false, 0, term, 3}
				switch kind {
				case api.VoteAsk:
					wantMsgs(t, what, got, api.Msg{Kind: kind + 1, From: 2, To: 3, Term: term, Err: api.ErrState})
				case api.AppendAsk:
					want.leader = 3
					wantMsgs(t, what, got, api.Msg{Kind: kind + 1, From: 2, To: 3, Term: term, Err: api.ErrOrder})
				case api.SnapAsk:
					want.leader = 3
					wantMsgs(t, what, got, api.Msg{Kind: kind + 1, From: 2, To: 3, Term: term, Index: -1})
				default:
					wantMsgs(t, what, got)
				}
				h.wantSeen(t, what, want)
				h.wantKept(t, what, was.with(term, 0))
			}
		}
	}
}

// A term that cannot be kept is not taken, and nothing is done.
func TestALaterTermThatIsRefused(t *testing.T) {
	for role, h := range roles(t) {
		for kind := api.VoteAsk; kind <= api.SnapTell; kind++ {
			for _, term := range []int{most + 1, math.MaxInt, 1 << 40} {
				h.wantStill(t, role, func() []api.Msg { return h.Step(11, ask(kind, 3, 2, term)) })
			}
		}
		stuff(t, h.disk, 0)
		for kind := api.VoteAsk; kind <= api.SnapTell; kind++ {
			h.wantStill(t, role, func() []api.Msg { return h.Step(11, ask(kind, 3, 2, 64)) })
		}
		stuff(t, h.disk, 1)
		h.Step(11, ask(api.VoteTell, 3, 2, 64))
		h.wantSeen(t, role, seen{false, 0, 64, 3})
	}
}

// vote is a VoteAsk of 1 to 2.
func vote(term, index, last int) api.Msg {
	return api.Msg{Kind: api.VoteAsk, From: 1, To: 2, Term: term, Index: index, Last: last}
}

// A vote goes to one whose end is not behind the node's: 7 of the term 4.
func TestTheEndOfACandidate(t *testing.T) {
	for _, c := range []struct {
		index, last int
		want        api.Errno
	}{
		{7, 4, api.OK}, {8, 4, api.OK}, {6, 4, api.ErrState}, {0, 4, api.ErrState}, {math.MaxInt, 4, api.OK}, {math.MinInt, 4, api.ErrState},
		{7, 5, api.OK}, {6, 5, api.OK}, {0, 5, api.OK}, {-1, 99, api.OK}, {1, math.MaxInt, api.OK},
		{7, 3, api.ErrState}, {8, 3, api.ErrState}, {most, 3, api.ErrState}, {8, 0, api.ErrState}, {8, -1, api.ErrState}, {8, math.MinInt, api.ErrState},
	} {
		for _, term := range []int{4, 5} {
			h := at(t, some, 10, 2, 1, 2, 3)
			what := fmt.Sprint(c, term)
			wantMsgs(t, what, h.Step(0, vote(term, c.index, c.last)), api.Msg{Kind: api.VoteTell, From: 2, To: 1, Term: term, Err: c.want})
			want := some.with(term, 0)
			if c.want == api.OK {
				want.vote = 1
			}
			h.wantKept(t, what, want)
			h.wantSeen(t, what, seen{false, 0, term, 3})
		}
	}
	h := at(t, kept{}, 10, 2, 1, 2, 3)
	wantMsgs(t, "an empty log", h.Step(0, vote(0, 0, 0)), api.Msg{Kind: api.VoteTell, From: 2, To: 1})
	h.wantKept(t, "an empty log", kept{vote: 1})
	h = at(t, kept{term: 8, snap: api.Entry{Term: 6, Index: 9}}, 10, 2, 1, 2, 3)
	wantMsgs(t, "behind the snapshot", h.Step(0, vote(8, 8, 6)), api.Msg{Kind: api.VoteTell, From: 2, To: 1, Term: 8, Err: api.ErrState})
	wantMsgs(t, "at the snapshot", h.Step(0, vote(8, 9, 6)), api.Msg{Kind: api.VoteTell, From: 2, To: 1, Term: 8})
}

// One vote a term: to one voter, as often as it asks; a candidate's is its own, a leader gives none.
func TestOneVoteATerm(t *testing.T) {
	for role, h := range roles(t) {
		asks := func(from, term int, want api.Errno) {
			t.Helper()
			wantMsgs(t, role, h.Step(11, api.Msg{Kind: api.VoteAsk, From: from, To: 2, Term: term, Index: 99, Last: 99}),
				api.Msg{Kind: api.VoteTell, From: 2, To: from, Term: term, Err: want})
		}
		if role == "follower" {
			asks(3, 5, api.OK)
			asks(3, 5, api.OK)
			// Whom it follows it follows still.
			h.wantSeen(t, role, seen{false, 1, 5, 3})
		} else {
			was := h.seen()
			asks(3, 5, api.ErrState)
			h.wantSeen(t, role, was)
		}
		asks(1, 5, api.ErrState)
		asks(1, 6, api.OK)
		asks(3, 6, api.ErrState)
		asks(1, 6, api.OK)
		if h.log.Vote() != 1 {
			t.Fatalf("%s: the vote is %d", role, h.log.Vote())
		}
	}
}

// A leader gives no vote, though its log should have none; and where a vote cannot be kept, there is none.
func TestAVoteThatIsRefused(t *testing.T) {
	h := at(t, some, 10, 2, 1, 2, 3)
	h.led(t, 1)
	must(t, h.log.Turn(7, 0))
	h.wantStill(t, "a leader", func() []api.Msg {
		wantMsgs(t, "a leader", h.Step(11, vote(7, 99, 99)), api.Msg{Kind: api.VoteTell, From: 2, To: 1, Term: 7, Err: api.ErrState})
		return nil
	})
	h = at(t, some, 10, 2, 1, 2, 3)
	must(t, h.disk.Remove("r.term"))
	stuff(t, h.disk, 5)
	h.wantStill(t, "no room", func() []api.Msg {
		wantMsgs(t, "no room", h.Step(11, vote(4, 99, 99)), api.Msg{Kind: api.VoteTell, From: 2, To: 1, Term: 4, Err: api.ErrState})
		return nil
	})
}

// wantDue asks that a node stands at a tick, not ahead of it.
func (h home) wantDue(t *testing.T, what string, due int) {
	t.Helper()
	h.wantStill(t, what, func() []api.Msg { return h.Tick(due-1, 0) })
	term := h.Term()
	h.Tick(due, 0)
	if h.Term() != term+1 {
		t.Fatalf("%s: it does not stand at %d", what, due)
	}
}

// The deadline is put off by a vote that is given, by a leader that asks; by nothing else.
func TestWhatPutsTheDeadlineOff(t *testing.T) {
	for _, c := range []struct {
		m   api.Msg
		due int
	}{
		{vote(4, 7, 4), 23}, {vote(9, 7, 4), 23}, {vote(4, 6, 4), 13}, {vote(9, 6, 4), 13}, {vote(3, 7, 4), 13},
		{ask(api.AppendAsk, 1, 2, 4), 23}, {ask(api.AppendAsk, 1, 2, 5), 23}, {ask(api.AppendAsk, 1, 2, 3), 13},
		{api.Msg{Kind: api.AppendAsk, From: 1, To: 2, Term: 4, Index: 99}, 23},
		{api.Msg{Kind: api.AppendAsk, From: 1, To: 2, Term: 4, Index: 7, Last: 4, Entries: terms(7, 3)}, 23},
		{ask(api.SnapAsk, 1, 2, 4), 23}, {ask(api.SnapAsk, 1, 2, 5), 23}, {ask(api.SnapAsk, 1, 2, 3), 13},
		{api.Msg{Kind: api.SnapAsk, From: 1, To: 2, Term: 4, Index: 99}, 23},
		{ask(api.VoteTell, 1, 2, 4), 13}, {ask(api.VoteTell, 1, 2, 5), 13}, {ask(api.AppendTell, 1, 2, 5), 13}, {ask(api.SnapTell, 1, 2, 5), 13},
		{ask(api.AppendAsk, 4, 2, 4), 13}, {ask(7, 1, 2, 4), 13},
	} {
		h := at(t, some, 10, 2, 1, 2, 3)
		h.Tick(0, 3)
		h.Step(10, c.m)
		h.wantDue(t, fmt.Sprint(c.m), c.due)
	}
	// Also that of a node that had none.
	h := at(t, some, 10, 2, 1, 2, 3)
	h.Step(5, ask(api.AppendAsk, 1, 2, 4))
	h.wantDue(t, "the first one", 15)
}

// Votes that are none: refused, of another role; each voter's counts once.
func TestVotesThatDoNotCount(t *testing.T) {
	h := at(t, some, 10, 3, 1, 2, 3, 4, 5)
	h.wantStill(t, "of a follower", func() []api.Msg { return h.Step(0, ask(api.VoteTell, 1, 3, 4)) })
	h.stands(t)
	for _, e := range []api.Errno{api.ErrState, api.ErrFenced, api.ErrArg, 99, -1} {
		for _, from := range []int{1, 2, 4, 5} {
			h.wantStill(t, "refused", func() []api.Msg { return h.Step(10, api.Msg{Kind: api.VoteTell, From: from, To: 3, Term: 5, Err: e}) })
		}
	}
	for range 5 {
		h.wantStill(t, "one voter's", func() []api.Msg { return h.Step(10, ask(api.VoteTell, 4, 3, 5)) })
	}
	// Votes of one term do not count in the next one.
	h.Tick(20, 0)
	h.wantStill(t, "anew", func() []api.Msg { return h.Step(20, ask(api.VoteTell, 2, 3, 6)) })
	h.wantStill(t, "late", func() []api.Msg { return h.Step(20, ask(api.VoteTell, 1, 3, 5)) })
	if got := h.Step(20, ask(api.VoteTell, 4, 3, 6)); len(got) != 4 || !h.Leads() {
		t.Fatalf("three of five: %v", got)
	}
	h.wantStill(t, "of a leader", func() []api.Msg { return h.Step(20, ask(api.VoteTell, 5, 3, 6)) })
	// A candidate that came to follow does not lead by votes that come late.
	h = at(t, some, 10, 2, 1, 2, 3)
	h.stands(t)
	h.Step(11, ask(api.AppendAsk, 1, 2, 5))
	h.wantStill(t, "late", func() []api.Msg { return h.Step(11, ask(api.VoteTell, 3, 2, 5)) })
	// Nor does one that came to know of a later term.
	h = at(t, some, 10, 2, 1, 2, 3)
	h.stands(t)
	h.Step(11, ask(api.VoteTell, 3, 2, 6))
	h.wantSeen(t, "a vote of a later term", seen{false, 0, 6, 3})
}

// To lead is to put an entry behind the end, and to send from there on.
func TestToLead(t *testing.T) {
	for _, k := range []kept{some, {}, {term: 8, snap: api.Entry{Term: 6, Index: 9, Data: "s"}}, {term: 3, list: row(0, 40, 2)}} {
		h := at(t, k, 10, 2, 1, 2, 3)
		end, last := h.log.Last()
		x := blank(end+1, k.term+1)
		m := api.Msg{Kind: api.AppendAsk, From: 2, Term: k.term + 1, Index: end, Last: last, High: k.snap.Index, Entries: []api.Entry{x}}
		wantMsgs(t, "to lead", h.led(t, 3), to(1, m), to(3, m))
		h.wantSeen(t, "to lead", seen{true, 2, k.term + 1, k.snap.Index})
		h.wantKept(t, "to lead", k.with(k.term+1, 2, x))
	}
}

// Whoever cannot put its entry does not lead.
func TestToLeadThatIsRefused(t *testing.T) {
	full := at(t, some, 10, 2, 1, 2, 3)
	full.stands(t)
	stuff(t, full.disk, 10)
	last := at(t, kept{term: 4, snap: api.Entry{Term: 2, Index: most}}, 10, 2, 1, 2, 3)
	last.stands(t)
	newer := at(t, kept{term: 4, list: row(0, 2, 9)}, 10, 2, 1, 2, 3)
	newer.stands(t)
	for i, h := range []home{full, last, newer} {
		was, commit := keptBy(h.log), h.Commit()
		wantMsgs(t, "refused", h.Step(10, ask(api.VoteTell, 1, 2, 5)))
		h.wantSeen(t, fmt.Sprint(i), seen{false, 0, 5, commit})
		h.wantKept(t, fmt.Sprint(i), was)
		// It is a follower: more votes do nothing, and it stands again in time.
		stuff(t, h.disk, 1000)
		h.wantStill(t, "more votes", func() []api.Msg { return h.Step(11, ask(api.VoteTell, 3, 2, 5)) })
		h.wantDue(t, "again", 20)
	}
	alone := at(t, some, 10, 2, 2)
	stuff(t, alone.disk, 10)
	alone.Tick(0, 0)
	wantMsgs(t, "alone", alone.Tick(10, 0))
	alone.wantSeen(t, "alone", seen{false, 0, 5, 3})
}

// entries is an AppendAsk of 1 to 2, in the term 5.
func entries(index, last, high int, list ...api.Entry) api.Msg {
	return api.Msg{Kind: api.AppendAsk, From: 1, To: 2, Term: 5, Index: index, Last: last, High: high, Entries: list}
}

// Entries that join on to the log of some are put; what is then committed is told, and how far the logs are alike.
func TestEntriesThatJoin(t *testing.T) {
	for _, c := range []struct {
		m      api.Msg
		index  int
		commit int
		want   kept
	}{
		{entries(7, 4, 0), 7, 3, some}, {entries(7, 4, 3), 7, 3, some}, {entries(7, 4, 5), 7, 5, some}, {entries(7, 4, 7), 7, 7, some}, {entries(7, 4, 8), 7, 7, some}, {entries(7, 4, math.MaxInt), 7, 7, some}, {entries(7, 4, -1), 7, 3, some}, {entries(7, 4, math.MinInt), 7, 3, some},
		{entries(5, 2, 99), 5, 5, some}, {entries(4, 1, 99), 4, 4, some}, {entries(3, 1, 99), 3, 3, some},
		{entries(7, 4, 99, row(7, 3, 5)...), 10, 10, some.with(5, 0, row(7, 3, 5)...)},
		{entries(7, 4, 9, row(7, 3, 5)...), 10, 9, some.with(5, 0, row(7, 3, 5)...)},
		{entries(7, 4, 0, row(7, 64, 5)...), 71, 3, some.with(5, 0, row(7, 64, 5)...)},
		// What is there already stays, with all behind it.
		{entries(3, 1, 5, some.list[:2]...), 5, 5, some}, {entries(3, 1, 7, some.list[:2]...), 5, 5, some},
		// Another one takes its place, and all behind it are gone.
		{entries(5, 2, 7, row(5, 1, 5)...), 6, 6, some.upTo(5, row(5, 1, 5)...)},
		{entries(3, 1, 6, terms(3, 1, 2, 3)...), 6, 6, some.upTo(5, terms(5, 3)...)},
		// What lies in the snapshot is passed over, whatever its term is said to be.
		{entries(2, 9, 99), 2, 3, some}, {entries(0, 0, 99), 0, 3, some}, {entries(1, -1, 99), 1, 3, some},
		{entries(0, 0, 99, row(0, 2, 1)...), 2, 3, some}, {entries(0, 0, 99, row(0, 3, 1)...), 3, 3, some},
		{entries(1, 7, 99, terms(1, 1, 1, 1, 2)...), 5, 5, some},
		{entries(1, 7, 99, terms(1, 1, 1, 1, 3)...), 5, 5, some.upTo(4, terms(4, 3)...)},
	} {
		for _, h := range []home{at(t, some.with(5, 0), 10, 2, 1, 2, 3), at(t, some, 10, 2, 1, 2, 3), roles(t)["candidate"]} {
			what := fmt.Sprint(c)
			vote := h.log.Vote()
			wantMsgs(t, what, h.Step(0, c.m), api.Msg{Kind: api.AppendTell, From: 2, To: 1, Term: 5, Index: c.index})
			h.wantSeen(t, what, seen{false, 1, 5, c.commit})
			h.wantKept(t, what, c.want.with(5, vote))
		}
	}
}

// Entries that do not join on are refused, with where to go on from.
func TestEntriesThatDoNotJoin(t *testing.T) {
	for _, c := range []struct {
		m    api.Msg
		want int
	}{
		{entries(8, 4, 99), 7}, {entries(9, 4, 99), 7}, {entries(8, 5, 99, row(8, 1, 5)...), 7}, {entries(math.MaxInt, 4, 99), 7}, {entries(most, -1, 99), 7},
		{entries(7, 3, 99), 6}, {entries(7, 5, 99), 6}, {entries(7, 0, 99), 6}, {entries(7, -1, 99), 6}, {entries(7, math.MaxInt, 99, row(7, 1, 5)...), 6},
		{entries(5, 1, 99), 4}, {entries(4, 4, 99), 3}, {entries(3, 2, 99), 2}, {entries(3, 0, 99), 2}, {entries(3, -1, 99, row(3, 2, 5)...), 2},
		{entries(-1, -1, 99), 0}, {entries(-1, 0, 99, row(-1, 2, 5)...), 0}, {entries(-2, -1, 99), 0}, {entries(math.MinInt+1, 0, 99), 0},
	} {
		for _, h := range []home{at(t, some.with(5, 0), 10, 2, 1, 2, 3), roles(t)["candidate"]} {
			what := fmt.Sprint(c)
			was := keptBy(h.log)
			wantMsgs(t, what, h.Step(0, c.m), api.Msg{Kind: api.AppendTell, From: 2, To: 1, Term: 5, Err: api.ErrOrder, Index: c.want})
			h.wantSeen(t, what, seen{false, 1, 5, 3})
			h.wantKept(t, what, was)
		}
	}
	// Of an empty log.
	for _, c := range []struct{ index, last, want int }{{1, 0, 0}, {5, 1, 0}, {0, 1, 0}, {0, -1, 0}} {
		h := at(t, kept{term: 5}, 10, 2, 1, 2, 3)
		wantMsgs(t, fmt.Sprint(c), h.Step(0, entries(c.index, c.last, 9)), api.Msg{Kind: api.AppendTell, From: 2, To: 1, Term: 5, Err: api.ErrOrder})
	}
	h := at(t, kept{term: 5}, 10, 2, 1, 2, 3)
	wantMsgs(t, "the first ones", h.Step(0, entries(0, 0, 9, row(0, 2, 3)...)), api.Msg{Kind: api.AppendTell, From: 2, To: 1, Term: 5, Index: 2})
	h.wantSeen(t, "the first ones", seen{false, 1, 5, 2})
}

// What the log refuses is told, and nothing of it is committed.
func TestEntriesThatAreRefused(t *testing.T) {
	long := row(7, 2, 5)
	long[1].Data = strings.Repeat("d", api.MaxData+1)
	for _, c := range []struct {
		m    api.Msg
		want api.Errno
	}{
		{entries(7, 4, 99, row(8, 1, 5)...), api.ErrArg}, {entries(7, 4, 99, row(7, 1, 3)...), api.ErrArg}, {entries(7, 4, 99, terms(7, 6, 5)...), api.ErrArg},
		{entries(7, 4, 99, row(7, 1, 0)...), api.ErrArg}, {entries(7, 4, 99, row(7, 1, most+1)...), api.ErrArg}, {entries(5, 2, 99, row(6, 1, 2)...), api.ErrArg},
		{entries(7, 4, 99, long...), api.ErrLong},
		{entries(7, 4, 99, api.Entry{Term: 5, Index: 8, Data: strings.Repeat("d", 200)}), api.ErrFull},
	} {
		for _, h := range []home{at(t, some.with(5, 0), 10, 2, 1, 2, 3), roles(t)["candidate"]} {
			stuff(t, h.disk, 100)
			was := keptBy(h.log)
			what := fmt.Sprint(c)
			wantMsgs(t, what, h.Step(0, c.m), api.Msg{Kind: api.AppendTell, From: 2, To: 1, Term: 5, Err: c.want})
			h.wantSeen(t, what, seen{false, 1, 5, 3})
			h.wantKept(t, what, was)
		}
	}
}

// A leader is asked nothing in its own term.
func TestAsksOfALeader(t *testing.T) {
	h := roles(t)["leader"]
	for _, m := range []api.Msg{
		entries(8, 5, 8), entries(7, 4, 7, row(7, 3, 5)...), entries(3, 1, 3, row(3, 1, 5)...), entries(99, 0, 0), entries(-1, 0, 0),
		{Kind: api.SnapAsk, From: 1, To: 2, Term: 5, Index: 20, Last: 5, Text: "s"}, {Kind: api.SnapAsk, From: 1, To: 2, Term: 5, Index: 1}, {Kind: api.SnapAsk, From: 1, To: 2, Term: 5, Index: -1},
	} {
		h.wantStill(t, fmt.Sprint(m), func() []api.Msg { return h.Step(11, m) })
	}
}

// What is handed in is neither kept nor written into.
func TestStepKeepsNoList(t *testing.T) {
	all := row(7, 3, 5)
	h := at(t, some, 10, 2, 1, 2, 3)
	h.Step(0, entries(7, 4, 9, all[:2]...))
	if !slices.Equal(all, row(7, 3, 5)) {
		t.Fatal(all)
	}
	all[0].Data, all[1].Term = "changed", 77
	h.wantKept(t, "behind it", some.with(5, 0, row(7, 2, 5)...))
	// What is told is not the log's, nor shared by two messages.
	h = at(t, some, 10, 2, 1, 2, 3)
	got := h.led(t, 1)
	got[0].Entries[0].Data = "changed"
	if got[1].Entries[0].Data != "" {
		t.Fatal(got)
	}
	h.wantKept(t, "behind it", some.with(5, 2, blank(8, 5)))
}
