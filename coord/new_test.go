package coord_test

import (
	"math"
	"testing"

	"logboom/api"
	"logboom/coord"
	"logboom/groups"
	"logboom/replica"
)

// The chapter's examples

func TestTheDocumentsExamples(t *testing.T) {
	r := led(t, 1000000, state(1, 1)).coordinated()
	r.wantReady(false)
	r.want(r.c.Run(0))
	r.wantReady(true)
	m := join("g", 0, 1, 2)
	r.want(r.c.Ask(0, m), tells(m, member(1, 1, 1, 2)))
	m = ask(beat, "g", 1, 1)
	r.want(r.c.Ask(5, m), tells(m, member(1, 1)))
	r.want(r.c.Tick(14))
	r.wantMembers("g", 1)
	r.want(r.c.Tick(15))
	r.wantMembers("g")
}

// C1

func TestNewOfSessions(t *testing.T) {
	for _, session := range l(1, 2, 10, api.MaxTick-1, api.MaxTick) {
		r := led(t, 100000, state(1, 1))
		if c, e := coord.New(r.x, 0, session); c == nil || e != api.OK {
			t.Errorf("a session of %d: %v", session, e)
		}
	}
	for _, session := range l(0, -1, math.MinInt, api.MaxTick+1, 1<<32+1, math.MaxInt) {
		r := led(t, 100000, state(1, 1))
		was := picture(r.d)
		if c, e := coord.New(r.x, 0, session); c != nil || e != api.ErrArg {
			t.Errorf("a session of %d: %v", session, e)
		}
		if picture(r.d) != was {
			t.Errorf("a session of %d: it was written", session)
		}
	}
}

func TestNewWritesItsEpoch(t *testing.T) {
	r := led(t, 100000, state(1, 1))
	r.put("x", "y")
	for _, now := range append(wild(), 0, 7) {
		at := r.next()
		_, e := coord.New(r.x, now, 10)
		must(t, e)
		list, e := r.x.Store().Log().Read(at, 1000)
		must(t, e)
		if len(list) != 1 || list[0].Epoch != 3 || list[0].Pid != 0 || len(list[0].Records) != 1 {
			t.Fatalf("%d batches are written, or not such a one", len(list))
		}
		if got := list[0].Records[0]; got != (api.Record{Value: epoch(3)}) {
			t.Fatalf("the record: %q, %q, %d", got.Key, got.Value, got.Time)
		}
	}
}

func TestNewRefusedByTheLeader(t *testing.T) {
	r := led(t, 100000, state(2, 1))
	was := picture(r.d)
	if c, e := coord.New(r.x, 0, 10); c != nil || e != api.ErrInsync {
		t.Errorf("too few in sync: %v", e)
	}
	if c, e := coord.New(r.x, 0, 0); c != nil || e != api.ErrArg {
		t.Errorf("the session is looked at first: %v", e)
	}
	if picture(r.d) != was {
		t.Error("it was written")
	}
	r = led(t, 1000, state(1, 1))
	r.stuffed(0)
	was = picture(r.d)
	if c, e := coord.New(r.x, 0, 10); c != nil || e != api.ErrFull {
		t.Errorf("a full disk: %v", e)
	}
	if picture(r.d) != was {
		t.Error("it was written")
	}
	if c, e := coord.New(new(replica.Leader), 0, 10); c != nil || e == api.OK {
		t.Errorf("a leader that was not made: %v", e)
	}
}

func TestReadyIsToBeCommitted(t *testing.T) {
	r := led(t, 100000, state(1, 1, 2)).coordinated()
	r.want(r.c.Run(0))
	r.wantReady(false)
	r.want(r.c.Tick(100))
	r.wantReady(false)
	r.fetched()
	r.wantReady(false)
	r.want(r.c.Run(0))
	r.wantReady(true)
	if n := r.c.Groups().Epoch(); n != 3 {
		t.Errorf("the epoch: %d", n)
	}
	r.want(r.c.Run(0))
	r.wantReady(true)
}

// A record of another epoch is not that for which it waits; another coordinator's of its own is.
func TestReadyByARecordOfItsEpoch(t *testing.T) {
	r := led(t, 100000, state(1, 1, 2))
	r.put(epoch(1))
	r.put(epoch(2))
	r.put(record(api.Meta{Kind: groups.Join, Name: "g", A: 3}), record(api.Meta{Kind: groups.Leave, A: 3}))
	other := r.next()
	r.put(epoch(3))
	r.put("x")
	r.coordinated()
	for offset := range other + 1 {
		if offset != 3 {
			r.fetchedTo(offset)
		}
		r.want(r.c.Run(0))
		r.wantReady(false)
	}
	r.fetchedTo(other + 1)
	r.want(r.c.Run(0))
	r.wantReady(true)
}

// That it was applied is asked, not that it was not fenced.
func TestReadyBehindAGreaterEpoch(t *testing.T) {
	r := led(t, 100000, state(1, 1, 2))
	at := r.put(epoch(5))
	r.coordinated()
	r.fetchedTo(at + 1)
	r.want(r.c.Run(0))
	r.wantReady(false)
	r.fetched()
	r.want(r.c.Run(0))
	r.wantReady(true)
	if n := r.c.Groups().Epoch(); n != 5 {
		t.Errorf("the epoch: %d", n)
	}
}

// It begins where the log does, and knows nothing of what lies ahead of that.
func TestItBeginsAtTheLogsStart(t *testing.T) {
	r := led(t, 100000, state(1, 1))
	r.put(record(api.Meta{Kind: groups.Join, Name: "g"}))
	r.put(record(api.Meta{Kind: groups.Join, Name: "h"}))
	must(t, r.x.Delete(1))
	r.coordinated()
	r.want(r.c.Run(0))
	r.wantReady(true)
	r.wantMembers("g")
	r.wantMembers("h", 1)
	m := join("h", 0)
	r.want(r.c.Ask(0, m), tells(m, member(2, 2)))
}

// What is deleted ahead of being applied is not there any more: it ends, and tells nothing.
func TestALogThatIsDeletedUnderIt(t *testing.T) {
	r := led(t, 100000, state(1, 1)).coordinated()
	must(t, r.x.Delete(1))
	r.want(r.c.Run(0))
	r.want(r.c.Tick(0))
	r.wantReady(false)
}

// P1: one that New did not make answers, too.
func TestOneThatNewDidNotMake(t *testing.T) {
	c := new(coord.Coord)
	r := &rig{t: t, c: c}
	r.want(c.Run(0))
	r.want(c.Tick(math.MaxInt))
	r.want(c.Ask(0, api.Msg{}))
	for kind, e := range map[int]api.Errno{groups.Join: api.ErrState, beat: api.ErrState, groups.Epoch: api.ErrArg} {
		m := ask(kind, "g", 1, 1)
		r.want(c.Ask(0, m), refused(m, e))
	}
	if c.Ready() || c.Open() != 0 || len(c.Groups().Names()) != 0 || c.Groups() != c.Groups() {
		t.Error("it has something")
	}
}

// Two over two leaders have nothing in common.
func TestTwoHaveNothingInCommon(t *testing.T) {
	a, b := alone(t), alone(t)
	a.c.Ask(0, join("g", 0))
	b.wantMembers("g")
	a.wantMembers("g", 1)
}
