package coord_test

import (
	"math"
	"slices"
	"strings"
	"testing"

	"logboom/api"
	"logboom/groups"
)

// C3

func TestAskOfOtherMessages(t *testing.T) {
	for _, r := range []*rig{alone(t), led(t, 100000, state(1, 1)).coordinated()} {
		r.wantUntouched(func() {
			for kind := range 300 {
				if kind != api.GroupAsk {
					m := join("g", 0)
					m.Kind = kind
					r.want(r.c.Ask(0, m))
				}
			}
			for _, kind := range wild() {
				m := join("g", 0)
				m.Kind = kind
				r.want(r.c.Ask(0, m))
			}
		})
	}
}

// asWrong are requests that may not be, whether it is ready or not.
func asWrong() []api.Msg {
	list := []api.Msg{
		{Kind: api.GroupAsk},
		join(strings.Repeat("g", 33), 0), join(strings.Repeat("g", 1<<20), 0), sync(strings.Repeat("g", 33), 1, 1),
		ask(beat, strings.Repeat("g", 33), 1, 1), ask(beat, "g", 1, 1, make([]int, 17)...),
		join("g", 0, make([]int, 17)...), join("g", 0, make([]int, 1<<20)...), ask(groups.Commit, "g", 1, 1, make([]int, 17)...),
	}
	for _, kind := range append(wild(), 0, groups.Epoch, 8, 9, 256+1, 1<<32+7) {
		list = append(list, ask(kind, "g", 1, 1), ask(kind, strings.Repeat("g", 33), 1, 1, make([]int, 17)...))
	}
	return list
}

func TestAskOfWhatMayNotBe(t *testing.T) {
	ready := alone(t)
	ready.c.Ask(0, join("g", 0))
	for _, r := range []*rig{ready, led(t, 100000, state(1, 1)).coordinated()} {
		r.wantUntouched(func() {
			for _, m := range asWrong() {
				r.want(r.c.Ask(0, m), refused(m, api.ErrArg))
			}
		})
	}
}

func TestAskAheadOfBeingReady(t *testing.T) {
	r := led(t, 100000, state(1, 1, 2)).coordinated()
	for range 2 {
		r.wantUntouched(func() {
			for _, kind := range l(groups.Join, groups.Leave, groups.Commit, groups.Read, groups.Sync, beat) {
				m := ask(kind, "g", 1, 1)
				r.want(r.c.Ask(0, m), refused(m, api.ErrState))
			}
		})
		// That it could be ready is seen by Run and Tick alone.
		r.fetched()
	}
	r.want(r.c.Run(0))
	r.want(r.c.Ask(0, join("g", 0)))
	r.wantOpen(1)
}

func TestAskOfTheLongestAndTheMost(t *testing.T) {
	r := alone(t)
	name := strings.Repeat("g", 32)
	m := join(name, 0, count(16)...)
	r.want(r.c.Ask(0, m), tells(m, member(1, 1, count(16)...)))
	m = ask(beat, name, 1, 1, make([]int, 16)...)
	r.want(r.c.Ask(0, m), tells(m, member(1, 1)))
	// Any ints have room.
	m = join(name, 0, slices.Repeat(l(math.MinInt), 16)...)
	m.Seq, m.High, m.Offset = math.MinInt, math.MaxInt, math.MinInt
	r.want(r.c.Ask(0, m), refused(m, api.ErrArg))
}

// A request's answer goes back to where it came from, with its number, its partition, its kind.
func TestAskAnswersTheOneWhoAsked(t *testing.T) {
	r := alone(t)
	m := join("g", 0, 4)
	m.From, m.To, m.Id, m.Part = 203, 5, 1000000000, 12
	m.Epoch, m.Last, m.Start, m.Term, m.PidEpoch, m.Text, m.Err = 1, 2, 3, 4, 5, "text", api.ErrLong
	m.Batches, m.Entries = make([]api.Batch, 1), make([]api.Entry, 1)
	r.want(r.c.Ask(0, m), api.Msg{Kind: api.GroupTell, From: 5, To: 203, Id: 1000000000, Part: 12, Index: groups.Join, Pid: 1, Seq: 1, Ints: l(4)})
	m.Index, m.Pid, m.Seq = beat, 1, 1
	r.want(r.c.Ask(0, m), api.Msg{Kind: api.GroupTell, From: 5, To: 203, Id: 1000000000, Part: 12, Index: beat, Pid: 1, Seq: 1})
	m.Pid = 2
	r.want(r.c.Ask(0, m), api.Msg{Kind: api.GroupTell, From: 5, To: 203, Id: 1000000000, Part: 12, Index: beat, Err: api.ErrMember})
}

func TestAskWritesARecord(t *testing.T) {
	r := pair(t)
	at := r.next()
	var want []api.Meta
	for _, kind := range l(groups.Join, groups.Leave, groups.Commit, groups.Read, groups.Sync) {
		m := ask(kind, "some-group", 11, 12, 15, 16, 17)
		m.High, m.Offset = 13, 14
		m.Epoch, m.Last, m.Start, m.Term, m.PidEpoch, m.Text = 1, 2, 3, 4, 5, "text"
		r.want(r.c.Ask(0, m))
		want = append(want, api.Meta{Kind: kind, A: 11, B: 12, C: 13, D: 14, Name: "some-group", List: l(15, 16, 17)})
	}
	r.wantWritten(at, want...)
	for _, b := range r.x.Store().Log().All() {
		if b.Epoch != 3 || b.Pid != 0 || len(b.Records) != 1 || b.Records[0].Key != "" || b.Records[0].Time != 0 {
			t.Errorf("written in the batch %d: epoch %d, producer %d, %d records, not as it should be", b.Base, b.Epoch, b.Pid, len(b.Records))
		}
	}
}

// Whether a group or a member is one is for the record to tell: ahead of it another one may come.
func TestAskDoesNotLookAtGroups(t *testing.T) {
	r := pair(t)
	a, b, c := join("g", 0, 1), sync("g", 1, 1), join("A?", 0)
	r.want(r.c.Ask(0, a))
	r.want(r.c.Ask(0, b))
	r.want(r.c.Ask(0, c))
	r.fetched()
	r.want(r.c.Run(0), tells(a, member(1, 1, 1)), tells(b, member(1, 1, 1)), refused(c, api.ErrArg))
}

func TestAskOfEachKind(t *testing.T) {
	r := alone(t)
	for _, c := range []struct {
		m    api.Msg
		want groups.Told
	}{
		{join("g", 0, 1, 2, 3), member(1, 1, 1, 2, 3)},
		{join("g", 0, 1, 2, 3), member(2, 2, 3)},
		{join("g", 1, 1, 2), member(1, 3, 1)},
		{sync("g", 2, 3), member(2, 3, 2)},
		{sync("g", 2, 2), groups.Told{Err: api.ErrGen}},
		{commit("g", 2, 3, 2, 77, 5), groups.Told{Member: 2, Gen: 3, Offset: 77}},
		{commit("g", 2, 3, 2, 77, 5), groups.Told{Err: api.ErrDuplicate}},
		{commit("g", 2, 3, 1, 77, 6), groups.Told{Err: api.ErrState}},
		{commit("g", 2, 2, 2, 77, 6), groups.Told{Err: api.ErrGen}},
		{commit("g", 2, 3, 2, -1, 6), groups.Told{Err: api.ErrArg}},
		{read("g", 2), groups.Told{Gen: 3, Offset: 77}},
		{read("g", 1), groups.Told{Gen: 3, Offset: -1}},
		{leave("g", 2), groups.Told{Member: 2, Gen: 4}},
		{leave("g", 2), groups.Told{Err: api.ErrMember}},
		{leave("h", 2), groups.Told{Err: api.ErrNone}},
		{join("g", 0, 1), member(3, 5)},
	} {
		r.want(r.c.Ask(0, c.m), tells(c.m, c.want))
		r.wantOpen(0)
	}
}

func TestBeats(t *testing.T) {
	r := alone(t)
	r.c.Ask(0, join("g", 0))
	r.c.Ask(0, join("g", 0))
	r.c.Ask(0, leave("g", 1))
	at := r.next()
	for _, c := range []struct {
		group       string
		member, gen int
		want        api.Errno
	}{
		{"g", 2, 3, api.OK}, {"g", 2, 2, api.ErrGen}, {"g", 2, 4, api.ErrGen}, {"g", 2, -1, api.ErrGen},
		{"g", 1, 3, api.ErrMember}, {"g", 3, 3, api.ErrMember}, {"g", 0, 3, api.ErrMember}, {"g", -1, 3, api.ErrMember}, {"g", 3, 1, api.ErrMember},
		{"h", 2, 3, api.ErrMember}, {"h", 0, 0, api.ErrMember}, {"", 0, 0, api.ErrMember}, {"g", 0, 0, api.ErrMember}, {"A?", 2, 3, api.ErrMember},
	} {
		m := ask(beat, c.group, c.member, c.gen)
		told := groups.Told{Err: c.want}
		if c.want == api.OK {
			told = member(c.member, c.gen)
		}
		r.wantUntouched(func() { r.want(r.c.Ask(1, m), tells(m, told)) })
	}
	r.wantWritten(at)
}

// A beat is answered at once, and answers nobody else.
func TestBeatsDoNotRun(t *testing.T) {
	r := pair(t)
	r.want(r.c.Ask(0, join("g", 0)))
	r.fetched()
	r.want(r.c.Run(0), tells(join("g", 0), member(1, 1)))
	r.want(r.c.Ask(0, sync("g", 1, 1)))
	r.fetched()
	m := ask(beat, "g", 1, 1)
	r.want(r.c.Ask(0, m), tells(m, member(1, 1)))
	m = ask(8, "g", 1, 1)
	r.want(r.c.Ask(0, m), refused(m, api.ErrArg))
	r.wantOpen(1)
	r.want(r.c.Run(0), tells(sync("g", 1, 1), member(1, 1)))
}

// What is asked is followed by a Run: others are answered, too, those ahead of it first.
func TestAskRuns(t *testing.T) {
	r := pair(t)
	a, b := from(101, 1, join("g", 0)), from(102, 2, join("g", 0))
	r.want(r.c.Ask(0, a))
	r.fetched()
	r.want(r.c.Ask(0, b), tells(a, member(1, 1)))
	r.wantOpen(1)
	p := state(1, 1)
	p.Version = 2
	must(t, r.x.Learn(p, 0))
	c := from(103, 3, sync("g", 1, 2))
	r.want(r.c.Ask(0, c), tells(b, member(2, 2)), tells(c, member(1, 2)))
	r.wantOpen(0)
}

func TestAskRefusedByTheLeader(t *testing.T) {
	r := alone(t)
	r.c.Ask(0, join("g", 0))
	p := state(2, 1)
	p.Version = 2
	must(t, r.x.Learn(p, 0))
	r.wantUntouched(func() {
		for _, m := range []api.Msg{join("g", 0), leave("g", 1), commit("g", 1, 1, 1, 1, 1), read("g", 1), sync("g", 1, 1)} {
			r.want(r.c.Ask(5, m), refused(m, api.ErrInsync))
		}
		// It is told ahead of what the record would be told.
		r.want(r.c.Ask(5, sync("h", 9, 9)), refused(sync("h", 9, 9), api.ErrInsync))
	})
	m := ask(beat, "g", 1, 1)
	r.want(r.c.Ask(5, m), tells(m, member(1, 1)))
}

func TestAskOnAFullDisk(t *testing.T) {
	r := pair(t)
	r.want(r.c.Ask(0, join("g", 0)))
	r.stuffed(10)
	r.fetched()
	// The refused one is answered alone.
	r.want(r.c.Ask(0, join("g", 0)), refused(join("g", 0), api.ErrFull))
	r.wantOpen(1)
	r.want(r.c.Run(0), tells(join("g", 0), member(1, 1)))
	r.stuffed(1000)
	r.want(r.c.Ask(0, join("g", 0)))
	r.wantOpen(1)
}

// Who asked as a member is SEEN, at the time of asking, whatever comes of it; others are not.
func TestAskSeesTheMember(t *testing.T) {
	for i, c := range []struct {
		m    api.Msg
		seen bool
	}{
		{sync("g", 1, 1), true}, {sync("g", 1, 9), true}, {commit("g", 1, 1, 1, 5, 5), true}, {commit("g", 1, 8, 1, 5, 5), true},
		{ask(groups.Read, "g", 1, 0), true}, {join("g", 1, 0), true}, {join("g", 1, 1), true},
		{read("g", 1), false}, {sync("g", 2, 1), false}, {sync("h", 1, 1), false}, {ask(groups.Read, "h", 1, 0), false}, {sync("g", -1, 1), false},
		{ask(beat, "g", 1, 1), true}, {ask(beat, "g", 1, 9), false}, {ask(beat, "g", 2, 1), false}, {ask(beat, "h", 1, 1), false},
		{ask(groups.Epoch, "g", 1, 1), false}, {ask(groups.Read, "g", 1, 0, make([]int, 17)...), false},
	} {
		r := alone(t)
		r.c.Ask(0, join("g", 0, 1))
		r.c.Ask(5, c.m)
		r.c.Tick(10)
		if seen := len(r.c.Groups().Members("g")) == 1; seen != c.seen {
			t.Errorf("case %d: seen: %v", i, seen)
		}
		r.c.Tick(15)
		r.wantMembers("g")
	}
}

// SEEN when asked, not when it is committed.
func TestAskSeesTheMemberAtOnce(t *testing.T) {
	r := pair(t)
	r.c.Ask(0, join("g", 0))
	r.fetched()
	r.c.Run(0)
	r.c.Ask(5, sync("g", 1, 1))
	r.fetched()
	r.want(r.c.Run(8), tells(sync("g", 1, 1), member(1, 1)))
	at := r.next()
	r.c.Tick(14)
	r.wantWritten(at)
	r.c.Tick(15)
	r.wantWritten(at, api.Meta{Kind: groups.Leave, Name: "g", A: 1})
}

// One that was refused by the leader is not SEEN by it.
func TestAskThatIsNotWrittenSeesNobody(t *testing.T) {
	r := alone(t)
	r.c.Ask(0, join("g", 0))
	r.stuffed(10)
	r.want(r.c.Ask(5, sync("g", 1, 1)), refused(sync("g", 1, 1), api.ErrFull))
	r.stuffed(1000)
	r.c.Tick(9)
	r.wantMembers("g", 1)
	r.c.Tick(10)
	r.wantMembers("g")
}

// P3: a request's list is the client's, an answer's the one's who gets it.
func TestAskSharesNothing(t *testing.T) {
	r := pair(t)
	list := l(1, 2, 3, 77)
	m := join("g", 0)
	m.Ints = list[:3]
	r.want(r.c.Ask(0, m))
	m2 := join("g", 1, 1, 2, 3)
	r.want(r.c.Ask(0, m2))
	clear(list)
	r.fetched()
	got := r.c.Run(0)
	r.want(got, tells(m, member(1, 1, 1, 2, 3)), tells(m2, member(1, 2, 1, 2, 3)))
	clear(got[0].Ints)
	_ = append(got[0].Ints, 9)
	r.want(got[1:], tells(m2, member(1, 2, 1, 2, 3)))
	if owner := r.c.Groups().Owner("g", 3); owner != 1 {
		t.Errorf("the owner of 3: %d", owner)
	}
	list = l(4, 5, 6)
	m.Ints = list[:2]
	r.want(r.c.Ask(0, m))
	if !slices.Equal(list, l(4, 5, 6)) {
		t.Errorf("the request's list: %v", list)
	}
}

// C5

func TestOpen(t *testing.T) {
	r := pair(t)
	for i := range 100 {
		r.wantOpen(i)
		r.want(r.c.Ask(0, from(101+i%9, i, read("g", i))))
	}
	r.want(r.c.Ask(0, ask(beat, "g", 1, 1)), refused(ask(beat, "g", 1, 1), api.ErrMember))
	r.want(r.c.Tick(0))
	r.wantOpen(100)
	r.fetchedTo(r.next() - 40)
	if got := r.c.Tick(0); len(got) != 60 {
		t.Errorf("%d answers", len(got))
	}
	r.wantOpen(40)
}
