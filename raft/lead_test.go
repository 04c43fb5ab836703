package raft_test

import (
	"fmt"
	"math"
	"strings"
	"testing"

	"logboom/api"
)

// tells is an answer of 1 to 2, in the term 5.
func tells(kind int, e api.Errno, index int) api.Msg {
	return api.Msg{Kind: kind, From: 1, To: 2, Term: 5, Err: e, Index: index}
}

// lead8 is what a leader over some has: 8 entries up to its own.
var lead8 = some.with(5, 2, blank(8, 5))

// from8 is what that leader sends to 1 from an index on.
func from8(next, high int) api.Msg {
	m := api.Msg{From: 2, To: 1, Term: 5}
	if next < 4 {
		m.Kind, m.Index, m.Last, m.Text = api.SnapAsk, 3, 1, "snapshot"
		return m
	}
	m.Kind, m.Index, m.Last, m.High = api.AppendAsk, next-1, []int{3: 1, 4: 1, 5: 2, 6: 2, 7: 4, 8: 5}[next-1], high
	m.Entries = lead8.list[next-4:]
	return m
}

// An answer that entries are there says up to where: what comes behind is sent, and what a majority have is committed, if it is of the term.
func TestEntriesThatAreThere(t *testing.T) {
	for _, kind := range []int{api.AppendTell, api.SnapTell} {
		for _, c := range []struct{ index, next, commit int }{
			{8, 0, 8}, {9, 0, 8}, {most, 0, 8}, {math.MaxInt, 0, 8},
			{7, 8, 3}, {6, 7, 3}, {5, 6, 3}, {4, 5, 3}, {3, 4, 3}, {2, 1, 3}, {1, 1, 3}, {0, 1, 3}, {-1, 1, 3}, {math.MinInt, 1, 3},
		} {
			h := roles(t)["leader"]
			what := fmt.Sprint(kind, c)
			got := h.Step(11, tells(kind, api.OK, c.index))
			if c.next == 0 {
				wantMsgs(t, what, got)
			} else {
				wantMsgs(t, what, got, from8(c.next, 3))
			}
			h.wantSeen(t, what, seen{true, 2, 5, c.commit})
			h.wantKept(t, what, lead8)
		}
	}
}

// An answer that comes late takes nothing back of what is known to be there.
func TestAnswersThatComeLate(t *testing.T) {
	h := roles(t)["leader"]
	h.Step(11, tells(api.AppendTell, api.OK, 5))
	for _, index := range []int{4, 0, -9, 5} {
		wantMsgs(t, "late", h.Step(11, tells(api.AppendTell, api.OK, index)), from8(6, 3))
		wantMsgs(t, "late", h.Step(11, tells(api.SnapTell, api.OK, index)), from8(6, 3))
	}
	for _, index := range []int{4, 3, 0, -9, math.MinInt, 5, 9, math.MaxInt} {
		wantMsgs(t, "late", h.Step(11, tells(api.AppendTell, api.ErrOrder, index)), from8(6, 3))
	}
	h.Step(11, tells(api.AppendTell, api.OK, 8))
	wantMsgs(t, "late", h.Step(11, tells(api.AppendTell, api.OK, 4)))
	// There is nothing behind it: a message without entries is sent.
	m := api.Msg{Kind: api.AppendAsk, From: 2, To: 1, Term: 5, Index: 8, Last: 5, High: 8}
	wantMsgs(t, "late", h.Step(11, tells(api.AppendTell, api.ErrOrder, 2)), m)
	h.wantSeen(t, "late", seen{true, 2, 5, 8})
}

// A voter that lacks what entries stand behind is sent those ahead: one step back at least, and as far as it says.
func TestStepsBack(t *testing.T) {
	for _, c := range []struct{ index, next int }{
		{6, 7}, {7, 7}, {8, 7}, {most, 7}, {math.MaxInt - 1, 7}, {5, 6}, {4, 5}, {3, 4}, {2, 3}, {1, 2}, {0, 1}, {-1, 1}, {-99, 1}, {math.MinInt, 1},
	} {
		h := roles(t)["leader"]
		h.wantSent(t, c.index, from8(c.next, 3))
		h.wantSeen(t, fmt.Sprint(c), seen{true, 2, 5, 3})
		h.wantKept(t, fmt.Sprint(c), lead8)
	}
	h := roles(t)["leader"]
	for next := 7; next >= 1; next-- {
		h.wantSent(t, 99, from8(next, 3))
	}
	h.wantSent(t, 99, from8(1, 3))
	// And on again.
	wantMsgs(t, "on", h.Step(11, tells(api.SnapTell, api.OK, 3)), from8(4, 3))
	wantMsgs(t, "on", h.Step(11, tells(api.AppendTell, api.OK, 8)))
	h.wantSeen(t, "on", seen{true, 2, 5, 8})
}

// wantSent asks for what 1 is sent when it says that it lacks what was ahead.
func (h home) wantSent(t *testing.T, index int, want api.Msg) {
	t.Helper()
	wantMsgs(t, fmt.Sprint(index), h.Step(11, tells(api.AppendTell, api.ErrOrder, index)), want)
}

// Answers with other errors do nothing; nor do any of who does not lead.
func TestAnswersThatDoNothing(t *testing.T) {
	for role, h := range roles(t) {
		for _, e := range []api.Errno{api.OK, api.ErrOrder, api.ErrArg, api.ErrState, api.ErrFenced, api.ErrFull, api.ErrRange, api.ErrLong, -1, 99} {
			for _, kind := range []int{api.AppendTell, api.SnapTell} {
				if role == "leader" && (e == api.OK || e == api.ErrOrder && kind == api.AppendTell) {
					continue
				}
				for _, index := range []int{-1, 0, 5, 7, 8, 99} {
					m := tells(kind, e, index)
					h.wantStill(t, fmt.Sprint(role, m), func() []api.Msg { return h.Step(11, m) })
				}
			}
		}
	}
}

// A message has 16 entries at most; the next ones follow when these are there.
func TestSixteenEntries(t *testing.T) {
	k := kept{term: 4, list: row(0, 40, 4)}
	h := at(t, k, 10, 2, 1, 2, 3)
	h.led(t, 3)
	k = k.with(5, 2, blank(41, 5))
	part := func(from, to int) api.Msg {
		last := 4
		if from == 1 {
			last = 0
		}
		return api.Msg{Kind: api.AppendAsk, From: 2, To: 1, Term: 5, Index: from - 1, Last: last, Entries: k.list[from-1 : to]}
	}
	wantMsgs(t, "first", h.Step(11, tells(api.AppendTell, api.ErrOrder, 0)), part(1, 16))
	wantMsgs(t, "second", h.Step(11, tells(api.AppendTell, api.OK, 16)), part(17, 32))
	wantMsgs(t, "third", h.Step(11, tells(api.AppendTell, api.OK, 32)), part(33, 41))
	wantMsgs(t, "25", h.Step(11, api.Msg{Kind: api.AppendTell, From: 3, To: 2, Term: 5, Index: 25}), to(3, part(26, 41)))
	wantMsgs(t, "24", h.Step(11, api.Msg{Kind: api.AppendTell, From: 3, To: 2, Term: 5, Index: 24}), to(3, part(26, 41)))
	h.wantSeen(t, "none of the term", seen{true, 2, 5, 0})
	wantMsgs(t, "all", h.Step(11, tells(api.AppendTell, api.OK, 41)))
	h.wantSeen(t, "all", seen{true, 2, 5, 41})
}

// Voters are sent the snapshot when what they lack is gone; the leader's own Compact is enough for that.
func TestTheSnapshotIsSent(t *testing.T) {
	h := roles(t)["leader"]
	h.Step(11, api.Msg{Kind: api.AppendTell, From: 3, To: 2, Term: 5, Index: 8})
	h.Take()
	must(t, h.Compact(8, "new"))
	index, got, e := h.Propose(11, "x")
	x := api.Entry{Term: 5, Index: 9, Data: "x"}
	if index != 9 || e != api.OK {
		t.Fatal(index, e)
	}
	wantMsgs(t, "one of both", got,
		api.Msg{Kind: api.SnapAsk, From: 2, To: 1, Term: 5, Index: 8, Last: 5, Text: "new"},
		api.Msg{Kind: api.AppendAsk, From: 2, To: 3, Term: 5, Index: 8, Last: 5, High: 8, Entries: []api.Entry{x}})
	wantMsgs(t, "as ever", h.Tick(13, 0), got...)
	wantMsgs(t, "behind it", h.Step(13, tells(api.SnapTell, api.OK, 8)), to(1, got[1]))
	wantMsgs(t, "all", h.Step(13, tells(api.AppendTell, api.OK, 9)))
	h.wantSeen(t, "all", seen{true, 2, 5, 9})
}

// COMMIT is what a majority have; of five two others must have it.
func TestCommitAdvances(t *testing.T) {
	h := at(t, kept{}, 10, 3, 1, 2, 3, 4, 5)
	h.led(t, 1, 5)
	for range 9 {
		if _, _, e := h.Propose(11, "x"); e != api.OK {
			t.Fatal(e)
		}
	}
	for i, c := range []struct{ from, index, commit int }{
		{1, 10, 0}, {2, 3, 3}, {2, 2, 3}, {4, 7, 7}, {1, 10, 7}, {5, 5, 7}, {5, 8, 8}, {2, 6, 8}, {2, 9, 9}, {4, 10, 10}, {4, 99, 10},
	} {
		h.Step(11, api.Msg{Kind: api.AppendTell, From: c.from, To: 3, Term: 1, Index: c.index})
		if h.Commit() != c.commit {
			t.Fatalf("%d: COMMIT is %d, want %d", i, h.Commit(), c.commit)
		}
	}
}

// Entries of older terms are not committed by being had; they are with one of the term behind them.
func TestCommitOfOlderTerms(t *testing.T) {
	h := at(t, kept{term: 3, list: terms(0, 1, 2, 2, 3)}, 10, 3, 1, 2, 3, 4, 5)
	h.led(t, 1, 5)
	for _, from := range []int{1, 2, 4, 5} {
		h.Step(11, api.Msg{Kind: api.AppendTell, From: from, To: 3, Term: 4, Index: 4})
	}
	h.wantSeen(t, "older ones", seen{true, 3, 4, 0})
	h.Step(11, api.Msg{Kind: api.AppendTell, From: 1, To: 3, Term: 4, Index: 5})
	h.wantSeen(t, "two have it", seen{true, 3, 4, 0})
	h.Step(11, api.Msg{Kind: api.AppendTell, From: 4, To: 3, Term: 4, Index: 5})
	h.wantSeen(t, "three have it", seen{true, 3, 4, 5})
}

// What others had in the term in which a node led ahead does not count when it leads again.
func TestToLeadAgain(t *testing.T) {
	h := roles(t)["leader"]
	h.Step(11, tells(api.AppendTell, api.OK, 8))
	h.Step(11, ask(api.AppendTell, 1, 2, 6))
	h.Tick(40, 0)
	m := api.Msg{Kind: api.AppendAsk, From: 2, Term: 7, Index: 8, Last: 5, High: 8, Entries: []api.Entry{blank(9, 7)}}
	wantMsgs(t, "again", h.Step(40, ask(api.VoteTell, 3, 2, 7)), to(1, m), to(3, m))
	h.wantSeen(t, "again", seen{true, 2, 7, 8})
	// What 1 had is not known: it is sent all.
	wantMsgs(t, "back", h.Step(40, api.Msg{Kind: api.AppendTell, From: 1, To: 2, Term: 7, Err: api.ErrOrder, Index: 0}), api.Msg{Kind: api.SnapAsk, From: 2, To: 1, Term: 7, Index: 3, Last: 1, Text: "snapshot"})
}

// snapshot is a SnapAsk of 1 to 2, in the term 5.
func snapshot(index, last int, text string) api.Msg {
	return api.Msg{Kind: api.SnapAsk, From: 1, To: 2, Term: 5, Index: index, Last: last, Text: text}
}

// A snapshot is kept if it has more than what is committed; the entries behind it stay if they are behind the same one.
func TestSnapshotsThatCome(t *testing.T) {
	for _, c := range []struct {
		m    api.Msg
		want kept
	}{
		{snapshot(4, 1, "new"), kept{5, 0, api.Entry{Term: 1, Index: 4, Data: "new"}, some.list[1:]}},
		{snapshot(6, 2, ""), kept{5, 0, api.Entry{Term: 2, Index: 6}, some.list[3:]}},
		{snapshot(7, 4, "new"), kept{5, 0, api.Entry{Term: 4, Index: 7, Data: "new"}, nil}},
		{snapshot(6, 4, "new"), kept{5, 0, api.Entry{Term: 4, Index: 6, Data: "new"}, nil}},
		{snapshot(8, 4, "new"), kept{5, 0, api.Entry{Term: 4, Index: 8, Data: "new"}, nil}},
		{snapshot(most, most, strings.Repeat("s", 60000)), kept{5, 0, api.Entry{Term: most, Index: most, Data: strings.Repeat("s", 60000)}, nil}},
	} {
		for _, h := range []home{at(t, some.with(5, 0), 10, 2, 1, 2, 3), at(t, some, 10, 2, 1, 2, 3), roles(t)["candidate"]} {
			what := fmt.Sprint(c.m.Index, c.m.Last)
			vote := h.log.Vote()
			wantMsgs(t, what, h.Step(0, c.m), api.Msg{Kind: api.SnapTell, From: 2, To: 1, Term: 5, Index: c.m.Index})
			h.wantSeen(t, what, seen{false, 1, 5, c.m.Index})
			h.wantKept(t, what, c.want.with(5, vote))
		}
	}
}

// A snapshot of what is committed already is not kept; that it is there is told.
func TestSnapshotsThatBringNothing(t *testing.T) {
	for _, index := range []int{5, 4, 3, 1, 0, -1, math.MinInt} {
		h := at(t, some.with(5, 0), 10, 2, 1, 2, 3)
		h.commits(t, 5)
		for _, last := range []int{2, 0, -1, 9} {
			h.wantStill(t, "no more", func() []api.Msg {
				wantMsgs(t, "no more", h.Step(0, snapshot(index, last, "new")), api.Msg{Kind: api.SnapTell, From: 2, To: 1, Term: 5, Index: index})
				return nil
			})
		}
	}
	h := roles(t)["candidate"]
	h.Step(11, snapshot(2, 1, "old"))
	h.wantSeen(t, "it follows", seen{false, 1, 5, 3})
}

func TestSnapshotsThatAreRefused(t *testing.T) {
	for _, c := range []struct {
		m    api.Msg
		want api.Errno
	}{
		{snapshot(most+1, 5, ""), api.ErrArg}, {snapshot(math.MaxInt, 5, ""), api.ErrArg}, {snapshot(6, 0, ""), api.ErrArg}, {snapshot(6, -1, ""), api.ErrArg}, {snapshot(6, most+1, ""), api.ErrArg},
		{snapshot(6, 2, strings.Repeat("s", 60001)), api.ErrLong}, {snapshot(6, 2, strings.Repeat("s", 200)), api.ErrFull},
	} {
		for _, h := range []home{at(t, some.with(5, 0), 10, 2, 1, 2, 3), roles(t)["candidate"]} {
			stuff(t, h.disk, 100)
			was := keptBy(h.log)
			what := fmt.Sprint(c.m.Index, c.m.Last, len(c.m.Text))
			wantMsgs(t, what, h.Step(0, c.m), api.Msg{Kind: api.SnapTell, From: 2, To: 1, Term: 5, Err: c.want})
			h.wantSeen(t, what, seen{false, 1, 5, 3})
			h.wantKept(t, what, was)
		}
	}
	// Of a term that is less than the snapshot's that is there.
	h := at(t, kept{term: 5, snap: api.Entry{Term: 4, Index: 3}}, 10, 2, 1, 2, 3)
	wantMsgs(t, "an older term", h.Step(0, snapshot(4, 3, "")), api.Msg{Kind: api.SnapTell, From: 2, To: 1, Term: 5, Err: api.ErrArg})
}
