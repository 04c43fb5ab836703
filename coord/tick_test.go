package coord_test

import (
	"math"
	"testing"

	"logboom/api"
	"logboom/coord"
	"logboom/groups"
)

// gone is the record by which a member is let go.
func gone(group string, id int) api.Meta { return api.Meta{Kind: groups.Leave, Name: group, A: id} }

// C4

func TestTickOfSessions(t *testing.T) {
	for _, session := range l(1, 2, 10, 1000, api.MaxTick) {
		r := led(t, 100000, state(1, 1))
		var e api.Errno
		r.c, e = coord.New(r.x, 0, session)
		must(t, e)
		r.c.Run(0)
		r.c.Ask(7, join("g", 0))
		r.want(r.c.Tick(7))
		r.want(r.c.Tick(6 + session))
		r.wantMembers("g", 1)
		r.want(r.c.Tick(7 + session))
		r.wantMembers("g")
		if gen := r.c.Groups().Gen("g"); gen != 2 {
			t.Errorf("session %d: the generation is %d", session, gen)
		}
	}
}

func TestTickLongBehind(t *testing.T) {
	r := alone(t)
	r.c.Ask(0, join("g", 0))
	r.c.Tick(1000000)
	r.wantMembers("g")
}

// Those who are silent are let go by rising groups and ids; those who are not stay.
func TestTickGoesByGroupsAndIds(t *testing.T) {
	r := pair(t)
	for _, name := range []string{"h", "g-2", "z", "g", "0", "g1"} {
		for range 3 {
			r.c.Ask(0, join(name, 0))
		}
	}
	for range 8 {
		r.c.Ask(0, join("h", 0))
	}
	r.fetched()
	r.c.Run(0)
	for _, m := range []api.Msg{ask(beat, "g", 2, 3), ask(beat, "h", 10, 11), ask(beat, "z", 1, 3), ask(beat, "z", 3, 3)} {
		r.want(r.c.Ask(1, m), tells(m, member(m.Pid, m.Seq)))
	}
	at := r.next()
	r.want(r.c.Tick(10))
	r.wantWritten(at,
		gone("0", 1), gone("0", 2), gone("0", 3), gone("g", 1), gone("g", 3), gone("g-2", 1), gone("g-2", 2), gone("g-2", 3),
		gone("g1", 1), gone("g1", 2), gone("g1", 3),
		gone("h", 1), gone("h", 2), gone("h", 3), gone("h", 4), gone("h", 5), gone("h", 6), gone("h", 7), gone("h", 8), gone("h", 9), gone("h", 11),
		gone("z", 2),
	)
	r.fetched()
	r.want(r.c.Run(10))
	r.wantMembers("g", 2)
	r.wantMembers("h", 10)
	r.wantMembers("z", 1, 3)
	r.wantMembers("0")
}

// That a member leaves is written once, however long it takes to be committed; until then it is a member.
func TestTickLetsGoOnce(t *testing.T) {
	r := pair(t)
	r.c.Ask(0, join("g", 0))
	r.c.Ask(0, join("g", 0))
	r.fetched()
	r.c.Run(0)
	at := r.next()
	r.want(r.c.Tick(10))
	r.want(r.c.Tick(11))
	r.want(r.c.Tick(1000))
	r.wantWritten(at, gone("g", 1), gone("g", 2))
	// A member that is leaving is seen all the same, and leaves.
	m := ask(beat, "g", 1, 2)
	r.want(r.c.Ask(1001, m), tells(m, member(1, 2)))
	r.want(r.c.Tick(2000))
	r.wantWritten(at, gone("g", 1), gone("g", 2))
	r.fetchedTo(at + 1)
	r.want(r.c.Tick(2001))
	r.wantMembers("g", 2)
	r.want(r.c.Ask(2001, m), refused(m, api.ErrMember))
	r.fetched()
	r.want(r.c.Run(2001))
	r.wantMembers("g")
	r.want(r.c.Tick(5000))
	r.wantWritten(at, gone("g", 1), gone("g", 2))
}

// What a leaving member asks behind its Leave is answered by what is committed then.
func TestTickAndAMemberThatComesAgain(t *testing.T) {
	r := pair(t)
	r.c.Ask(0, join("g", 0, 1))
	r.fetched()
	r.c.Run(0)
	r.want(r.c.Tick(10))
	again, fresh := from(101, 1, join("g", 1, 1)), from(101, 2, join("g", 0, 1))
	r.want(r.c.Ask(11, again))
	r.want(r.c.Ask(11, fresh))
	r.fetched()
	r.want(r.c.Run(12), refused(again, api.ErrMember), tells(fresh, member(2, 3, 1)))
	// The new one has a session of its own.
	at := r.next()
	r.want(r.c.Tick(21))
	r.wantWritten(at)
	r.want(r.c.Tick(22))
	r.wantWritten(at, gone("g", 2))
}

// A Leave that it asks itself does not make it leaving: not before it is applied.
func TestTickAndAMemberThatLeaves(t *testing.T) {
	r := pair(t)
	r.c.Ask(0, join("g", 0))
	r.fetched()
	r.c.Run(0)
	at := r.next()
	r.want(r.c.Ask(5, leave("g", 1)))
	r.want(r.c.Tick(14))
	r.want(r.c.Tick(15))
	r.wantWritten(at, gone("g", 1), gone("g", 1))
	r.fetched()
	r.want(r.c.Run(16), tells(leave("g", 1), groups.Told{Member: 1, Gen: 2}))
	r.wantMembers("g")
}

// A Leave that the leader does not take is passed over, and the member is leaving all the same.
func TestTickOnAFullDisk(t *testing.T) {
	r := alone(t)
	r.c.Ask(0, join("g", 0))
	r.stuffed(10)
	r.wantUntouched(func() { r.want(r.c.Tick(10)) })
	r.stuffed(1000)
	at := r.next()
	r.want(r.c.Tick(11))
	r.want(r.c.Tick(100))
	r.wantWritten(at)
	r.wantMembers("g", 1)
	// One that joins now is let go in time.
	r.c.Ask(100, join("g", 0))
	r.want(r.c.Tick(110))
	r.wantMembers("g", 1)
}

func TestTickWithTooFewInSync(t *testing.T) {
	r := alone(t)
	r.c.Ask(0, join("g", 0))
	p := state(2, 1)
	p.Version = 2
	must(t, r.x.Learn(p, 0))
	r.wantUntouched(func() { r.want(r.c.Tick(10)) })
}

// Ahead of being ready nobody is let go; but what is committed is told.
func TestTickAheadOfBeingReady(t *testing.T) {
	r := led(t, 100000, state(1, 1, 2))
	at := r.put(record(api.Meta{Kind: groups.Join, Name: "g"}))
	r.coordinated()
	r.fetchedTo(at + 1)
	end := r.next()
	r.want(r.c.Tick(0))
	r.wantMembers("g", 1)
	r.want(r.c.Tick(1000))
	r.wantWritten(end)
	r.fetched()
	r.want(r.c.Tick(2000))
	r.wantReady(true)
	r.wantWritten(end)
}

// Tick tells what Run would tell.
func TestTickRuns(t *testing.T) {
	r := pair(t)
	a, b := from(101, 1, join("g", 0)), from(102, 2, join("h", 0))
	r.want(r.c.Ask(0, a))
	r.want(r.c.Ask(0, b))
	r.fetched()
	r.want(r.c.Tick(3), tells(a, member(1, 1)), tells(b, member(1, 1)))
	r.wantOpen(0)
	// Seen by the Run in it.
	at := r.next()
	r.want(r.c.Tick(12))
	r.wantWritten(at)
	r.want(r.c.Tick(13))
	r.wantWritten(at, gone("g", 1), gone("h", 1))
}

// A member of which nothing was ever seen is let go at once.
func TestTickOfAMemberThatWasNeverSeen(t *testing.T) {
	r := pair(t)
	r.c.Groups().Apply(api.Meta{Kind: groups.Join, Name: "g"})
	at := r.next()
	r.want(r.c.Tick(-1000))
	r.want(r.c.Tick(0))
	r.wantWritten(at, gone("g", 1))
}

// P1, P6: any time is one; how long ago a thing was goes round.
func TestTickOfAnyTime(t *testing.T) {
	for _, c := range []struct {
		seen, now int
		stays     bool
	}{
		{0, -1, true}, {0, math.MinInt, true}, {100, 50, true}, {math.MaxInt, math.MaxInt, true}, {math.MinInt, math.MinInt + 9, true}, {math.MinInt, math.MinInt + 10, false},
		{math.MaxInt, math.MinInt, true}, {math.MaxInt, math.MinInt + 8, true}, {math.MaxInt, math.MinInt + 9, false},
		{math.MinInt, math.MaxInt, true}, {0, math.MaxInt, false},
	} {
		r := alone(t)
		r.c.Ask(c.seen, join("g", 0))
		r.c.Tick(c.now)
		if stays := len(r.c.Groups().Members("g")) == 1; stays != c.stays {
			t.Errorf("seen at %d, now %d: stays: %v", c.seen, c.now, stays)
		}
	}
}

// The time of SEEN is the last one told, also if time went back.
func TestSeenIsTheLastTime(t *testing.T) {
	r := alone(t)
	r.c.Ask(100, join("g", 0))
	r.c.Ask(50, ask(beat, "g", 1, 1))
	r.c.Tick(59)
	r.wantMembers("g", 1)
	r.c.Tick(60)
	r.wantMembers("g")
}
