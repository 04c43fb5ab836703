package raft_test

import (
	"fmt"
	"math"
	"slices"
	"strconv"
	"strings"
	"testing"

	"logboom/api"
	"logboom/disk"
	"logboom/raft"
	"logboom/raftlog"
)

const most = api.MaxOffset

func made(t *testing.T, size int) *disk.Disk {
	t.Helper()
	d, e := disk.New(size)
	if e != api.OK {
		t.Fatalf("New(%d): %v", size, e)
	}
	return d
}

// must ends the test at the first call that is refused.
func must(t *testing.T, es ...api.Errno) {
	t.Helper()
	for i, e := range es {
		if e != api.OK {
			t.Fatalf("call %d: %v", i, e)
		}
	}
}

func wantErr(t *testing.T, what string, got, want api.Errno) {
	t.Helper()
	if got != want {
		t.Fatalf("%s: got %d, want %d", what, int(got), int(want))
	}
}

func opened(t *testing.T, d *disk.Disk) *raftlog.Log {
	t.Helper()
	l, e := raftlog.Open(d, "r")
	if l == nil || e != api.OK {
		t.Fatalf("Open: %v", e)
	}
	return l
}

// kept is what a log has.
type kept struct {
	term, vote int
	snap       api.Entry
	list       []api.Entry
}

func keptBy(l *raftlog.Log) kept {
	index, term, data := l.Snapshot()
	return kept{l.Term(), l.Vote(), api.Entry{Term: term, Index: index, Data: data}, l.From(index+1, math.MaxInt)}
}

// with is the same with another term and vote, and so many more entries.
func (k kept) with(term, vote int, more ...api.Entry) kept {
	k.term, k.vote = term, vote
	k.list = slices.Concat(k.list, more)
	return k
}

// upTo is the same without the entries behind an index, and with others there.
func (k kept) upTo(index int, more ...api.Entry) kept {
	k.list = slices.Concat(k.list[:index-k.snap.Index], more)
	return k
}

// begun is a log in that state, by its calls.
func begun(t *testing.T, d *disk.Disk, k kept) *raftlog.Log {
	t.Helper()
	l := opened(t, d)
	must(t, l.Turn(k.term, k.vote))
	if k.snap.Index != 0 {
		must(t, l.Snap(k.snap.Index, k.snap.Term, k.snap.Data))
	}
	must(t, l.Put(k.snap.Index, k.list))
	return l
}

// terms is entries behind an index, each of the next of these terms, with data of its own.
func terms(after int, list ...int) []api.Entry {
	var out []api.Entry
	for i, term := range list {
		out = append(out, api.Entry{Term: term, Index: after + 1 + i, Data: strconv.Itoa(term) + "." + strconv.Itoa(after+1+i)})
	}
	return out
}

// row is so many entries of one term.
func row(after, n, term int) []api.Entry {
	return terms(after, slices.Repeat([]int{term}, n)...)
}

// blank is an entry without data.
func blank(index, term int) api.Entry { return api.Entry{Term: term, Index: index} }

// stuff leaves so many bytes free.
func stuff(t *testing.T, d *disk.Disk, free int) {
	t.Helper()
	must(t, d.Replace("stuff", strings.Repeat("s", d.Free()+d.Size("stuff")-free)))
}

// picture is all that a disk tells.
func picture(d *disk.Disk) string {
	b := strings.Builder{}
	for _, name := range d.Names() {
		bytes, _ := d.Read(name)
		b.WriteString(strconv.Quote(name) + " " + strconv.Quote(bytes) + " " + strconv.Itoa(d.Synced(name)) + "\n")
	}
	return b.String() + strconv.Itoa(d.Free())
}

// home is a node with what it stands on.
type home struct {
	disk *disk.Disk
	log  *raftlog.Log
	*raft.Node
}

// at is a new node over a log in that state.
func at(t *testing.T, k kept, wait, id int, voters ...int) home {
	t.Helper()
	d := made(t, 1000000)
	l := begun(t, d, k)
	n, e := raft.New(id, voters, l, wait)
	if n == nil || e != api.OK {
		t.Fatalf("New: %v", e)
	}
	return home{d, l, n}
}

// seen is what a node tells of itself.
type seen struct {
	leads                bool
	leader, term, commit int
}

func (h home) seen() seen { return seen{h.Leads(), h.Leader(), h.Term(), h.Commit()} }

func (h home) wantSeen(t *testing.T, what string, want seen) {
	t.Helper()
	if got := h.seen(); got != want {
		t.Fatalf("%s: got %+v, want %+v", what, got, want)
	}
}

// wantKept asks for what the log has, also behind a crash.
func (h home) wantKept(t *testing.T, what string, want kept) {
	t.Helper()
	d := h.disk.Clone()
	d.Crash([]int{3, 3, 3})
	for _, l := range []*raftlog.Log{h.log, opened(t, d)} {
		if got := keptBy(l); fmt.Sprint(got) != fmt.Sprint(want) {
			t.Fatalf("%s: the log has\n%.500v\nwant\n%.500v", what, got, want)
		}
	}
}

// wantMsgs asks for messages, in order.
func wantMsgs(t *testing.T, what string, got []api.Msg, want ...api.Msg) {
	t.Helper()
	if a, b := fmt.Sprintf("%+v", got), fmt.Sprintf("%+v", want); a != b {
		t.Fatalf("%s: got\n%.1500s\nwant\n%.1500s", what, a, b)
	}
}

// wantStill asks that a node does nothing by a call: it tells and keeps what it did.
func (h home) wantStill(t *testing.T, what string, call func() []api.Msg) {
	t.Helper()
	was, disk := h.seen(), picture(h.disk)
	wantMsgs(t, what, call())
	h.wantSeen(t, what, was)
	if got := picture(h.disk); got != disk {
		t.Fatalf("%s: the disk was\n%.1000s\nis\n%.1000s", what, disk, got)
	}
}

// stands has a node of wait 10, by its ticks up to 10, be a candidate.
func (h home) stands(t *testing.T) {
	t.Helper()
	wantMsgs(t, "the first tick", h.Tick(0, 0))
	if got := h.Tick(10, 0); len(got) == 0 || got[0].Kind != api.VoteAsk {
		t.Fatalf("Tick(10): %v", got)
	}
}

// led has it lead, by votes of these.
func (h home) led(t *testing.T, voters ...int) []api.Msg {
	t.Helper()
	h.stands(t)
	var out []api.Msg
	for _, v := range voters {
		out = h.Step(10, api.Msg{Kind: api.VoteTell, From: v, To: h.log.Vote(), Term: h.Term()})
	}
	if !h.Leads() {
		t.Fatal("it does not lead")
	}
	return out
}

// some is a log with a bit of all.
var some = kept{term: 4, snap: api.Entry{Term: 1, Index: 3, Data: "snapshot"}, list: terms(3, 1, 2, 2, 4)}

// R1

func TestNew(t *testing.T) {
	d := made(t, 1000)
	for _, c := range []struct {
		id     int
		voters []int
		wait   int
	}{
		{1, []int{1}, 1}, {7, []int{7}, 1000000}, {1, []int{1, 2, 3}, 10}, {3, []int{1, 2, 3}, 10}, {4, []int{1, 4, 7}, 2}, {5, []int{1, 2, 3, 4, 5, 6, 7}, 999999},
	} {
		n, e := raft.New(c.id, c.voters, opened(t, d), c.wait)
		if n == nil || e != api.OK {
			t.Fatalf("%v: %v", c, e)
		}
		home{Node: n}.wantSeen(t, "a new one", seen{})
	}
}

func TestNewRefuses(t *testing.T) {
	l := opened(t, made(t, 1000))
	for _, c := range []struct {
		id     int
		voters []int
		wait   int
	}{
		{1, nil, 10}, {0, nil, 10}, {1, []int{}, 10},
		{1, []int{1, 1}, 10}, {1, []int{2, 1}, 10}, {1, []int{1, 3, 2}, 10}, {2, []int{1, 2, 2}, 10},
		{0, []int{0}, 10}, {1, []int{0, 1}, 10}, {-1, []int{-1, 1}, 10}, {8, []int{8}, 10}, {1, []int{1, 8}, 10}, {1, []int{1, math.MaxInt}, 10}, {1, []int{math.MinInt, 1}, 10},
		{1, []int{1, 2, 3, 4, 5, 6, 7, 8}, 10}, {1, []int{1, 2, 3, 4, 5, 6, 7, 7}, 10}, {1, slices.Repeat([]int{1}, 1000), 10},
		{2, []int{1, 3}, 10}, {0, []int{1, 3}, 10}, {4, []int{1, 2, 3}, 10}, {8, []int{1, 2, 3}, 10}, {-1, []int{1, 2, 3}, 10},
		{1, []int{1}, 0}, {1, []int{1}, -1}, {1, []int{1}, 1000001}, {1, []int{1}, math.MaxInt}, {1, []int{1}, math.MinInt},
	} {
		if n, e := raft.New(c.id, c.voters, l, c.wait); n != nil || e != api.ErrArg {
			t.Errorf("%v: got %v, %v", c, n, e)
		}
	}
}

// A new node is a follower of nobody, whatever its log has; what the snapshot has is committed.
func TestNewOverALog(t *testing.T) {
	for _, k := range []kept{
		{}, {term: 9, vote: 2}, some, {term: 9, vote: 1, list: row(0, 5, 9)}, {term: most, snap: api.Entry{Term: most, Index: most, Data: "s"}},
	} {
		h := at(t, k, 10, 2, 1, 2, 3)
		h.wantSeen(t, "a new one", seen{term: k.term, commit: k.snap.Index})
		h.wantKept(t, "a new one", k)
		wantMsgs(t, "no deadline yet", h.Tick(100000, 0))
	}
}

// The list of voters is not kept, nor written into; what lies behind its end is not read.
func TestNewKeepsNoList(t *testing.T) {
	all := []int{1, 2, 3, 99}
	n, e := raft.New(1, all[:3], opened(t, made(t, 1000)), 10)
	must(t, e)
	copy(all, []int{5, 6, 7})
	n.Tick(0, 0)
	wantMsgs(t, "Tick", n.Tick(10, 0), ask(api.VoteAsk, 1, 2, 1), ask(api.VoteAsk, 1, 3, 1))
	if !slices.Equal(all, []int{5, 6, 7, 99}) {
		t.Error(all)
	}
}

// ask is a message without more.
func ask(kind, from, to, term int) api.Msg {
	return api.Msg{Kind: kind, From: from, To: to, Term: term}
}

// R2

// A node stands when wait and the draw modulo wait have gone by since its first tick, not a tick ahead.
func TestTheDeadline(t *testing.T) {
	for _, c := range []struct{ wait, first, draw, due int }{
		{10, 0, 0, 10}, {10, 0, 3, 13}, {10, 0, 9, 19}, {10, 0, 10, 10}, {10, 0, 25, 15}, {10, 7, 3, 20},
		{10, 0, -1, 10}, {10, 0, -2, 11}, {10, 0, -10, 19}, {10, 0, -11, 10}, {10, 0, math.MaxInt, 10 + math.MaxInt%10}, {10, 0, math.MinInt, 10 + math.MaxInt%10},
		{1, 0, 0, 1}, {1, 0, 99, 1}, {1, 5, -99, 6}, {1000000, 3, 999999, 2000002}, {1000000, 3, 1000000, 1000003},
		{10, -100, 5, -85}, {10, -5, 0, 5}, {7, math.MinInt, 3, math.MinInt + 10}, {10, math.MaxInt - 12, 2, math.MaxInt},
	} {
		what := fmt.Sprint(c)
		h := at(t, kept{}, c.wait, 1, 1, 2)
		h.wantStill(t, what, func() []api.Msg { return h.Tick(c.first, c.draw) })
		h.wantStill(t, what, func() []api.Msg { return h.Tick(c.due-1, c.draw+1) })
		wantMsgs(t, what, h.Tick(c.due, c.draw), ask(api.VoteAsk, 1, 2, 1))
	}
}

// A deadline of -1 is none; ints go round.
func TestTheDeadlineGoesRound(t *testing.T) {
	h := at(t, kept{}, 10, 1, 1, 2)
	wantMsgs(t, "to -1", h.Tick(-11, 0))
	wantMsgs(t, "anew", h.Tick(-1, 0))
	wantMsgs(t, "not yet", h.Tick(8, 0))
	wantMsgs(t, "now", h.Tick(9, 0), ask(api.VoteAsk, 1, 2, 1))
	h = at(t, kept{}, 10, 1, 1, 2)
	wantMsgs(t, "beyond the greatest", h.Tick(math.MaxInt, 0), ask(api.VoteAsk, 1, 2, 1))
}

// To stand takes a new term, and puts the deadline off by the draw of that tick.
func TestToStand(t *testing.T) {
	h := at(t, some, 10, 2, 1, 2, 3, 5)
	votes := func(term int) []api.Msg {
		var out []api.Msg
		for _, v := range []int{1, 3, 5} {
			out = append(out, api.Msg{Kind: api.VoteAsk, From: 2, To: v, Term: term, Index: 7, Last: 4})
		}
		return out
	}
	h.Tick(0, 4)
	h.Step(0, api.Msg{Kind: api.AppendAsk, From: 5, To: 2, Term: 4, Index: 7, Last: 4, High: 5})
	h.wantSeen(t, "behind a leader", seen{false, 5, 4, 5})
	wantMsgs(t, "first", h.Tick(14, 6), votes(5)...)
	h.wantSeen(t, "first", seen{false, 0, 5, 5})
	h.wantKept(t, "first", some.with(5, 2))
	h.wantStill(t, "not yet", func() []api.Msg { return h.Tick(29, 0) })
	wantMsgs(t, "again", h.Tick(30, 0), votes(6)...)
	h.wantKept(t, "again", some.with(6, 2))
	wantMsgs(t, "again", h.Tick(50, 0), votes(7)...)
}

// What stands is the snapshot's index and term, if there is nothing behind it; 0 and 0 of an empty log.
func TestToStandWithoutEntries(t *testing.T) {
	for _, k := range []kept{{}, {term: 8, snap: api.Entry{Term: 6, Index: 9}}} {
		h := at(t, k, 10, 1, 1, 2)
		h.Tick(0, 0)
		wantMsgs(t, "the end", h.Tick(10, 0), api.Msg{Kind: api.VoteAsk, From: 1, To: 2, Term: k.term + 1, Index: k.snap.Index, Last: k.snap.Term})
	}
}

// Behind the last term nobody stands.
func TestToStandBehindTheLastTerm(t *testing.T) {
	h := at(t, kept{term: most - 1}, 10, 2, 1, 2, 3)
	h.stands(t)
	h.Step(10, ask(api.AppendAsk, 3, 2, most))
	for _, now := range []int{20, 30, 1000} {
		h.wantStill(t, "the last term", func() []api.Msg { return h.Tick(now, 0) })
		h.wantSeen(t, "the last term", seen{false, 3, most, 0})
	}
}

// Where a term cannot be kept, nobody stands; the deadline is put off nevertheless.
func TestToStandOnAFullDisk(t *testing.T) {
	h := at(t, some, 10, 2, 1, 2, 3)
	h.Tick(0, 0)
	h.Step(0, ask(api.AppendAsk, 3, 2, 4))
	must(t, h.disk.Remove("r.term"))
	stuff(t, h.disk, 5)
	h.wantStill(t, "no room", func() []api.Msg { return h.Tick(10, 5) })
	h.wantSeen(t, "no room", seen{false, 3, 4, 3})
	stuff(t, h.disk, 6)
	h.wantStill(t, "not yet", func() []api.Msg { return h.Tick(24, 0) })
	if got := h.Tick(25, 0); len(got) != 2 {
		t.Fatalf("with room: %v", got)
	}
	h.wantSeen(t, "with room", seen{false, 0, 5, 3})
	// A candidate that cannot stand again is one still: a vote in its term makes it lead.
	must(t, h.disk.Remove("r.term"))
	stuff(t, h.disk, 30)
	must(t, h.disk.Append("more", strings.Repeat("s", 25)))
	h.wantStill(t, "no room again", func() []api.Msg { return h.Tick(35, 0) })
	must(t, h.disk.Remove("more"))
	h.Step(35, ask(api.VoteTell, 1, 2, 5))
	h.wantSeen(t, "elected", seen{true, 2, 5, 3})
}

// The only voter leads at once, behind an entry of its own.
func TestTheOnlyVoterLeads(t *testing.T) {
	for _, k := range []kept{{}, some, {term: 8, snap: api.Entry{Term: 6, Index: 9}}} {
		h := at(t, k, 10, 3, 3)
		h.Tick(0, 0)
		wantMsgs(t, "alone", h.Tick(10, 0))
		end := k.snap.Index + len(k.list) + 1
		h.wantSeen(t, "alone", seen{true, 3, k.term + 1, end})
		h.wantKept(t, "alone", k.with(k.term+1, 3, blank(end, k.term+1)))
		h.wantStill(t, "behind it", func() []api.Msg { return h.Tick(1000, 0) })
	}
}

// A leader sends each quarter of wait, at least each tick, from when it sent last.
func TestTheBeat(t *testing.T) {
	for _, c := range []struct{ wait, beat int }{{1, 1}, {2, 1}, {3, 1}, {4, 1}, {7, 1}, {8, 2}, {10, 2}, {11, 2}, {12, 3}, {1000000, 250000}} {
		what := fmt.Sprint(c)
		h := at(t, some, c.wait, 2, 1, 2, 3)
		h.Tick(0, 0)
		h.Tick(c.wait, 0)
		now := c.wait + 5
		h.Step(now, ask(api.VoteTell, 3, 2, 5))
		append3 := api.Msg{Kind: api.AppendAsk, From: 2, Term: 5, Index: 7, Last: 4, High: 3, Entries: []api.Entry{blank(8, 5)}}
		for range 3 {
			h.wantStill(t, what, func() []api.Msg { return h.Tick(now+c.beat-1, 0) })
			h.wantStill(t, what, func() []api.Msg { return h.Tick(now-1000, 0) })
			wantMsgs(t, what, h.Tick(now+c.beat, 0), to(1, append3), to(3, append3))
			now += c.beat
		}
		now += c.beat + 100
		wantMsgs(t, what, h.Tick(now, 0), to(1, append3), to(3, append3))
		h.wantStill(t, what, func() []api.Msg { return h.Tick(now+c.beat-1, 0) })
		wantMsgs(t, what, h.Tick(now+c.beat, 0), to(1, append3), to(3, append3))
		h.wantSeen(t, what, seen{true, 2, 5, 3})
	}
}

// to is the same message to a voter.
func to(v int, m api.Msg) api.Msg {
	m.To = v
	return m
}

// The draw of a leader's tick counts, too, when it waits anew as a follower.
func TestTheDrawOfALeader(t *testing.T) {
	h := at(t, kept{}, 10, 1, 1, 2)
	h.led(t, 2)
	h.Tick(11, 7)
	h.Step(20, ask(api.AppendAsk, 2, 1, 2))
	h.wantStill(t, "not yet", func() []api.Msg { return h.Tick(36, 0) })
	if got := h.Tick(37, 0); len(got) != 1 || got[0].Term != 3 {
		t.Fatal(got)
	}
}

// Votes that are needed: more than half, the node's own among them.
func TestMajorities(t *testing.T) {
	for many, need := range []int{1: 1, 2: 2, 3: 2, 4: 3, 5: 3, 6: 4, 7: 4} {
		if many == 0 {
			continue
		}
		var voters []int
		for v := range many {
			voters = append(voters, v+1)
		}
		h := at(t, kept{}, 10, many, voters...)
		h.Tick(0, 0)
		h.Tick(10, 0)
		votes := 1
		for _, v := range voters[:many-1] {
			if h.Leads() != (votes >= need) {
				t.Fatalf("%d of %d votes: it leads: %v", votes, many, h.Leads())
			}
			h.Step(10, ask(api.VoteTell, v, many, 1))
			h.Step(10, ask(api.VoteTell, v, many, 1))
			votes++
		}
		if !h.Leads() {
			t.Fatalf("of %d: all votes, and it does not lead", many)
		}
		// What so many have is committed.
		got := 1
		for _, v := range voters[:many-1] {
			if h.Commit() != 0 && got < need || h.Commit() == 0 && got >= need {
				t.Fatalf("%d of %d have it: COMMIT is %d", got, many, h.Commit())
			}
			for range 2 {
				h.Step(11, api.Msg{Kind: api.AppendTell, From: v, To: many, Term: 1, Index: 1})
			}
			got++
		}
		if h.Commit() != 1 {
			t.Fatalf("of %d: all have it, and COMMIT is %d", many, h.Commit())
		}
	}
}

// R4

func TestPropose(t *testing.T) {
	h := at(t, some, 10, 2, 1, 2, 3)
	h.led(t, 1)
	h.Step(11, api.Msg{Kind: api.AppendTell, From: 3, To: 2, Term: 5, Index: 8})
	h.wantSeen(t, "one has it", seen{true, 2, 5, 8})
	index, got, e := h.Propose(11, "x")
	wantErr(t, "Propose", e, api.OK)
	if index != 9 {
		t.Fatalf("index %d", index)
	}
	x := api.Entry{Term: 5, Index: 9, Data: "x"}
	wantMsgs(t, "Propose", got,
		api.Msg{Kind: api.AppendAsk, From: 2, To: 1, Term: 5, Index: 7, Last: 4, High: 8, Entries: []api.Entry{blank(8, 5), x}},
		api.Msg{Kind: api.AppendAsk, From: 2, To: 3, Term: 5, Index: 8, Last: 5, High: 8, Entries: []api.Entry{x}})
	h.wantSeen(t, "Propose", seen{true, 2, 5, 8})
	h.wantKept(t, "Propose", some.with(5, 2, blank(8, 5), x))
	// Its beat is as it was.
	h.wantStill(t, "the beat", func() []api.Msg { return h.Tick(11, 0) })
	if got := h.Tick(12, 0); len(got) != 2 {
		t.Fatalf("the beat: %v", got)
	}
}

// Alone, what is proposed is committed at once.
func TestProposeAlone(t *testing.T) {
	h := at(t, kept{}, 10, 1, 1)
	h.Tick(0, 0)
	h.Tick(10, 0)
	for i, data := range []string{"x", "", strings.Repeat("d", api.MaxData), "\x00\xff"} {
		index, got, e := h.Propose(11, data)
		if index != i+2 || len(got) != 0 || e != api.OK || h.Commit() != i+2 {
			t.Fatalf("%d: %d, %v, %v, COMMIT %d", i, index, got, e, h.Commit())
		}
		if x, _ := h.log.At(index); x != (api.Entry{Term: 1, Index: index, Data: data}) {
			t.Fatalf("%d: %v", i, x)
		}
	}
}

func wantRefused(t *testing.T, h home, data string, want api.Errno) {
	t.Helper()
	h.wantStill(t, "Propose", func() []api.Msg {
		index, got, e := h.Propose(20, data)
		if index != 0 || e != want {
			t.Fatalf("Propose: got %d, %d, want 0, %d", index, int(e), int(want))
		}
		return got
	})
}

func TestProposeRefuses(t *testing.T) {
	h := at(t, some, 10, 2, 1, 2, 3)
	long := strings.Repeat("d", api.MaxData+1)
	wantRefused(t, h, "x", api.ErrLeader)
	wantRefused(t, h, long, api.ErrLeader)
	h.stands(t)
	wantRefused(t, h, "x", api.ErrLeader)
	h.Step(10, ask(api.VoteTell, 1, 2, 5))
	wantRefused(t, h, long, api.ErrLong)
	stuff(t, h.disk, 11)
	wantRefused(t, h, "x", api.ErrFull)
	stuff(t, h.disk, 12)
	if index, _, e := h.Propose(20, "x"); index != 9 || e != api.OK {
		t.Fatalf("with room: %d, %v", index, e)
	}
	h.Step(20, ask(api.AppendAsk, 3, 2, 6))
	wantRefused(t, h, "x", api.ErrLeader)
	// Behind the last index there is none.
	h = at(t, kept{term: 1, snap: api.Entry{Term: 1, Index: most - 1}}, 10, 2, 1, 2, 3)
	h.led(t, 1)
	wantRefused(t, h, "x", api.ErrArg)
}

// R5

func wantTake(t *testing.T, h home, what string, snap bool, want ...api.Entry) {
	t.Helper()
	got, first := h.Take()
	if !slices.Equal(got, want) || first != snap {
		t.Fatalf("%s: got %v, %v, want %v, %v", what, got, first, want, snap)
	}
}

// commits has a follower, 2 of 1 2 3, know of more entries that are committed.
func (h home) commits(t *testing.T, index int) {
	t.Helper()
	end, term := h.log.Last()
	h.Step(0, api.Msg{Kind: api.AppendAsk, From: 1, To: 2, Term: h.Term(), Index: end, Last: term, High: index})
	if h.Commit() != index {
		t.Fatalf("COMMIT is %d, want %d", h.Commit(), index)
	}
}

func TestTake(t *testing.T) {
	h := at(t, some, 10, 2, 1, 2, 3)
	wantTake(t, h, "the snapshot", true, some.snap)
	wantTake(t, h, "no more", false)
	h.commits(t, 5)
	wantTake(t, h, "entries", false, some.list[:2]...)
	wantTake(t, h, "no more", false)
	h.commits(t, 7)
	wantTake(t, h, "the rest", false, some.list[2:]...)
	// A node that begins anew takes all of it again.
	n, e := raft.New(2, []int{1, 2, 3}, opened(t, h.disk), 10)
	must(t, e)
	h.Node = n
	h.commits(t, 6)
	wantTake(t, h, "all", true, slices.Concat([]api.Entry{some.snap}, some.list[:3])...)
	wantTake(t, h, "no more", false)
}

func TestTakeWithoutASnapshot(t *testing.T) {
	h := at(t, kept{term: 2, list: terms(0, 1, 1, 2)}, 10, 2, 1, 2, 3)
	wantTake(t, h, "nothing", false)
	h.commits(t, 3)
	wantTake(t, h, "all", false, terms(0, 1, 1, 2)...)
}

// A snapshot that comes in is taken, ahead of what is committed behind it; what it has is not taken twice.
func TestTakeASnapshotThatCame(t *testing.T) {
	h := at(t, some, 10, 2, 1, 2, 3)
	h.commits(t, 4)
	h.Take()
	h.Step(0, api.Msg{Kind: api.SnapAsk, From: 1, To: 2, Term: 4, Index: 6, Last: 2, Text: "new"})
	h.commits(t, 7)
	wantTake(t, h, "both", true, api.Entry{Term: 2, Index: 6, Data: "new"}, some.list[3])
	wantTake(t, h, "no more", false)
	h.Step(0, api.Msg{Kind: api.SnapAsk, From: 1, To: 2, Term: 4, Index: 20, Last: 4})
	wantTake(t, h, "one without data", true, api.Entry{Term: 4, Index: 20})
}

// What was taken is the taker's own.
func TestTakeTellsCopies(t *testing.T) {
	h := at(t, some, 10, 2, 1, 2, 3)
	h.commits(t, 7)
	got, _ := h.Take()
	for i := range got {
		got[i] = api.Entry{}
	}
	_ = append(got[:1], api.Entry{Term: 77})
	h.wantKept(t, "behind it", some)
}

func TestCompact(t *testing.T) {
	h := at(t, some, 10, 2, 1, 2, 3)
	h.commits(t, 6)
	refused := func(index int, data string, want api.Errno) {
		t.Helper()
		h.wantStill(t, "Compact", func() []api.Msg {
			wantErr(t, "Compact of "+strconv.Itoa(index), h.Compact(index, data), want)
			return nil
		})
	}
	for _, index := range []int{math.MinInt, -1, 0, 1, 3, 4, 6, 7, 8, math.MaxInt} {
		refused(index, "s", api.ErrRange) // nothing was taken yet
	}
	h.Take()
	long := strings.Repeat("s", 60001)
	for _, index := range []int{math.MinInt, -1, 0, 1, 2, 3, 7, 8, math.MaxInt} {
		refused(index, "s", api.ErrRange)
		refused(index, long, api.ErrRange)
	}
	refused(5, long, api.ErrLong)
	stuff(t, h.disk, 5)
	refused(5, "some more bytes", api.ErrFull)
	must(t, h.Compact(5, "new"))
	h.wantKept(t, "up to 5", kept{4, 0, api.Entry{Term: 2, Index: 5, Data: "new"}, some.list[2:]})
	refused(5, "newer", api.ErrRange)
	refused(4, "newer", api.ErrRange)
	stuff(t, h.disk, 70000)
	must(t, h.Compact(6, long[1:]))
	h.wantKept(t, "up to 6", kept{4, 0, api.Entry{Term: 2, Index: 6, Data: long[1:]}, some.list[3:]})
	refused(7, "s", api.ErrRange)
	// The snapshot that the node made itself is not taken.
	wantTake(t, h, "behind Compact", false)
	h.commits(t, 7)
	wantTake(t, h, "behind Compact", false, some.list[3])
	must(t, h.Compact(7, ""))
	h.wantKept(t, "up to 7", kept{4, 0, api.Entry{Term: 4, Index: 7}, nil})
}

// Entries that were committed and then put away by who may not are not to be had; the calls end all the same.
func TestBeyondTheEnd(t *testing.T) {
	h := at(t, some, 10, 2, 1, 2, 3)
	h.commits(t, 7)
	h.Step(0, api.Msg{Kind: api.AppendAsk, From: 1, To: 2, Term: 4, Index: 4, Last: 1, Entries: terms(4, 3)})
	h.wantSeen(t, "put away", seen{false, 1, 4, 7})
	wantTake(t, h, "what is left", true, some.snap, some.list[0], terms(4, 3)[0])
	wantTake(t, h, "no more", false)
	wantErr(t, "Compact", h.Compact(6, "s"), api.ErrArg)
	wantErr(t, "Compact", h.Compact(7, "s"), api.ErrArg)
	h.led(t, 3)
	h.Step(10, api.Msg{Kind: api.AppendTell, From: 3, To: 2, Term: 5, Index: 6})
	h.wantSeen(t, "it leads", seen{true, 2, 5, 7})
	wantErr(t, "Compact", h.Compact(6, "s"), api.OK)
}

// A node that New did not make is none of any voters.
func TestANodeOfNothing(t *testing.T) {
	h := home{made(t, 100), nil, new(raft.Node)}
	for _, now := range []int{0, 1, 100, -5} {
		h.wantStill(t, "Tick", func() []api.Msg { return h.Tick(now, now) })
		for kind := range 9 {
			h.wantStill(t, "Step", func() []api.Msg { return h.Step(now, ask(kind, 1, 0, 1)) })
			h.wantStill(t, "Step", func() []api.Msg { return h.Step(now, ask(kind, 0, 0, 1)) })
		}
	}
	h.wantSeen(t, "nothing", seen{})
	wantRefused(t, h, "x", api.ErrLeader)
	wantTake(t, h, "nothing", false)
	wantErr(t, "Compact", h.Compact(0, ""), api.ErrRange)
	wantErr(t, "Compact", h.Compact(1, ""), api.ErrRange)
	wantErr(t, "Compact", (new(raft.Node)).Compact(1, ""), api.ErrRange)
	if list, snap := new(raft.Node).Take(); len(list) != 0 || snap {
		t.Error(list, snap)
	}
}

// The chapter's examples.
func TestExamples(t *testing.T) {
	h := at(t, kept{}, 10, 1, 1)
	for _, now := range []int{0, 12, 13} {
		wantMsgs(t, "alone", h.Tick(now, 3))
	}
	h.wantSeen(t, "alone", seen{true, 1, 1, 1})
	if index, got, e := h.Propose(13, "x"); index != 2 || len(got) != 0 || e != api.OK || h.Commit() != 2 {
		t.Error(index, got, e, h.Commit())
	}

	h = at(t, kept{}, 10, 1, 1, 2, 3)
	wantMsgs(t, "of three", h.Tick(0, 0))
	wantMsgs(t, "of three", h.Tick(10, 0), ask(api.VoteAsk, 1, 2, 1), ask(api.VoteAsk, 1, 3, 1))
	first := api.Msg{Kind: api.AppendAsk, From: 1, Term: 1, Entries: []api.Entry{blank(1, 1)}}
	wantMsgs(t, "of three", h.Step(10, ask(api.VoteTell, 2, 1, 1)), to(2, first), to(3, first))
	h.wantSeen(t, "of three", seen{true, 1, 1, 0})

	h = at(t, kept{}, 10, 2, 1, 2, 3)
	for _, c := range []struct {
		from, term int
		want       api.Errno
	}{{1, 1, api.OK}, {3, 1, api.ErrState}, {3, 0, api.ErrFenced}} {
		wantMsgs(t, "of 2", h.Step(0, ask(api.VoteAsk, c.from, 2, c.term)), api.Msg{Kind: api.VoteTell, From: 2, To: c.from, Term: 1, Err: c.want})
	}
}
