package coord_test

import (
	"strings"
	"testing"

	"logboom/api"
	"logboom/coord"
	"logboom/groups"
)

// C2

func TestRunAnswersInOrder(t *testing.T) {
	r := pair(t)
	var asked []api.Msg
	for i, m := range []api.Msg{
		join("g", 0, 1, 2, 3), join("g", 0, 1, 2, 3), sync("g", 1, 2), commit("g", 1, 2, 2, 50, 0),
		read("g", 2), read("g", 3), commit("g", 1, 2, 2, 50, 0), leave("g", 1), sync("g", 2, 3), read("h", 1),
	} {
		m = from(101+i%3, 20+i, m)
		asked = append(asked, m)
		r.want(r.c.Ask(i, m))
		r.wantOpen(i + 1)
	}
	r.want(r.c.Run(10))
	r.wantOpen(10)
	r.fetched()
	r.want(r.c.Run(11),
		tells(asked[0], member(1, 1, 1, 2, 3)),
		tells(asked[1], member(2, 2, 3)),
		tells(asked[2], member(1, 2, 1, 2)),
		tells(asked[3], groups.Told{Member: 1, Gen: 2, Offset: 50}),
		tells(asked[4], groups.Told{Gen: 2, Offset: 50}),
		tells(asked[5], groups.Told{Gen: 2, Offset: -1}),
		refused(asked[6], api.ErrDuplicate),
		tells(asked[7], groups.Told{Member: 1, Gen: 3}),
		tells(asked[8], member(2, 3, 1, 2, 3)),
		refused(asked[9], api.ErrNone),
	)
	r.wantOpen(0)
	r.want(r.c.Run(12))
}

// What is not committed is neither answered nor applied.
func TestRunGoesAsFarAsIsCommitted(t *testing.T) {
	r := pair(t)
	first := r.next()
	for range 5 {
		r.want(r.c.Ask(0, join("g", 0)))
	}
	for i := range 5 {
		r.fetchedTo(first + i + 1)
		r.wantMembers("g", count(i)...)
		r.want(r.c.Run(0), tells(join("g", 0), member(i+1, i+1)))
		r.wantMembers("g", count(i+1)...)
		r.wantOpen(4 - i)
		r.want(r.c.Run(0))
	}
}

// count is the numbers from 1 to n.
func count(n int) []int {
	var list []int
	for i := range n {
		list = append(list, i+1)
	}
	return list
}

// Each record of a batch is one: those that are none are passed over.
func TestRunOfBatchesWithManyRecords(t *testing.T) {
	r := pair(t)
	g, h := record(api.Meta{Kind: groups.Join, Name: "g"}), record(api.Meta{Kind: groups.Join, Name: "h"})
	r.put(g, "", "junk", h, g[:len(g)-1], g+"x", g)
	m := join("g", 0)
	r.want(r.c.Ask(0, m))
	r.put(strings.Repeat("x", 1000), g)
	r.fetched()
	r.want(r.c.Run(0), tells(m, member(3, 3)))
	r.wantMembers("g", 1, 2, 3, 4)
	r.wantMembers("h", 1)
}

// A batch of which the follower has a part alone is not committed.
func TestRunOfABatchThatIsCommittedInPart(t *testing.T) {
	r := pair(t)
	g := record(api.Meta{Kind: groups.Join, Name: "g"})
	at := r.put(g, g, g)
	r.fetchedTo(at + 2)
	r.want(r.c.Run(0))
	r.wantMembers("g")
	r.fetched()
	r.want(r.c.Run(0))
	r.wantMembers("g", 1, 2, 3)
}

// The log's keys, times and producers do not matter.
func TestRunOfRecordsOfProducers(t *testing.T) {
	r := pair(t)
	_, e := r.x.Produce(0, api.Batch{Pid: 7, Records: []api.Record{{Key: "k", Value: record(api.Meta{Kind: groups.Join, Name: "g"}), Time: 5}}})
	must(t, e)
	r.fetched()
	r.want(r.c.Run(0))
	r.wantMembers("g", 1)
}

// A record that was lost, with another thing in its place, is answered as what stands there.
func TestRunOfARecordThatIsNone(t *testing.T) {
	r := pair(t)
	at := r.next()
	m := join("g", 0)
	r.want(r.c.Ask(0, m))
	must(t, r.x.Store().Cut(at))
	r.put("junk")
	r.fetched()
	r.want(r.c.Run(0), refused(m, api.ErrForm))
	r.wantOpen(0)
	// The same of a record that is within a batch, and one of a kind that is none.
	at = r.next()
	r.want(r.c.Ask(0, m))
	r.want(r.c.Ask(0, m))
	must(t, r.x.Store().Cut(at))
	r.put(record(api.Meta{Kind: 9}), epoch(1)+"x")
	r.fetched()
	r.want(r.c.Run(0), refused(m, api.ErrArg), refused(m, api.ErrForm))
	r.wantOpen(0)
	r.wantMembers("g")
}

// A request waits for its own record: that of another at its place is not answered twice.
func TestEachRequestIsAnsweredOnce(t *testing.T) {
	r := pair(t)
	a, b := from(101, 1, join("g", 0)), from(101, 1, join("h", 0))
	r.put(record(api.Meta{Kind: groups.Join, Name: "g"}))
	r.want(r.c.Ask(0, a))
	r.put(record(api.Meta{Kind: groups.Join, Name: "g"}))
	r.want(r.c.Ask(0, b))
	r.fetched()
	r.want(r.c.Run(0), tells(a, member(2, 2)), tells(b, member(1, 1)))
	r.want(r.c.Run(0))
	r.want(r.c.Tick(0))
}

// A member is SEEN when its Join was applied, not when it asked.
func TestRunSeesThoseWhoJoined(t *testing.T) {
	r := pair(t)
	r.want(r.c.Ask(0, join("g", 0)))
	r.want(r.c.Ask(0, join("g", 0)))
	r.fetchedTo(r.next() - 1)
	r.want(r.c.Run(5), tells(join("g", 0), member(1, 1)))
	r.fetched()
	r.want(r.c.Run(30), tells(join("g", 0), member(2, 2)))
	at := r.next()
	r.want(r.c.Tick(14))
	r.wantWritten(at)
	r.want(r.c.Tick(15))
	r.wantWritten(at, api.Meta{Kind: groups.Leave, Name: "g", A: 1})
	r.want(r.c.Tick(39))
	r.wantWritten(at, api.Meta{Kind: groups.Leave, Name: "g", A: 1})
	r.want(r.c.Tick(40))
	r.wantWritten(at, api.Meta{Kind: groups.Leave, Name: "g", A: 1}, api.Meta{Kind: groups.Leave, Name: "g", A: 2})
}

// Also a Join of which nobody waits is seen, and one of a member that was there; a refused one is not.
func TestRunSeesJoinsThatNobodyWaitsFor(t *testing.T) {
	r := alone(t)
	r.put(record(api.Meta{Kind: groups.Join, Name: "g"}), record(api.Meta{Kind: groups.Join, Name: "g"}))
	r.want(r.c.Run(0))
	r.put(record(api.Meta{Kind: groups.Join, Name: "g", A: 1}), record(api.Meta{Kind: groups.Join, Name: "g", A: 2, List: l(0)}))
	r.want(r.c.Run(8))
	r.c.Tick(10)
	r.wantMembers("g", 1)
	r.c.Tick(17)
	r.wantMembers("g", 1)
	r.c.Tick(18)
	r.wantMembers("g")
}

// When it becomes ready all members are SEEN, whatever was known of them.
func TestRunSeesAllWhenItBecomesReady(t *testing.T) {
	r := led(t, 100000, state(1, 1, 2))
	g, h := record(api.Meta{Kind: groups.Join, Name: "g"}), record(api.Meta{Kind: groups.Join, Name: "h"})
	at := r.put(g, g, h)
	r.coordinated()
	r.fetchedTo(at + 3)
	r.want(r.c.Run(1))
	r.wantReady(false)
	r.wantMembers("g", 1, 2)
	// Those that were silent for long are not let go: whom they told of themselves is not known.
	r.want(r.c.Tick(50))
	r.fetched()
	r.want(r.c.Run(60))
	r.wantReady(true)
	end := r.next()
	r.want(r.c.Tick(69))
	r.wantWritten(end)
	r.want(r.c.Tick(70))
	r.wantWritten(end, api.Meta{Kind: groups.Leave, Name: "g", A: 1}, api.Meta{Kind: groups.Leave, Name: "g", A: 2}, api.Meta{Kind: groups.Leave, Name: "h", A: 1})
}

// A later record of its epoch makes nothing ready that was so: nobody is SEEN by it.
func TestRunSeesAllButOnce(t *testing.T) {
	r := alone(t)
	r.c.Ask(0, join("g", 0))
	r.put(epoch(3))
	r.want(r.c.Run(5))
	_, e := coord.New(r.x, 6, 10)
	must(t, e)
	r.want(r.c.Run(6))
	r.c.Tick(9)
	r.wantMembers("g", 1)
	r.c.Tick(10)
	r.wantMembers("g")
}

// One that became ready in a Tick sees all then.
func TestTickMayMakeItReady(t *testing.T) {
	r := led(t, 100000, state(1, 1))
	r.put(record(api.Meta{Kind: groups.Join, Name: "g"}))
	r.coordinated()
	r.want(r.c.Tick(100))
	r.wantReady(true)
	r.c.Tick(109)
	r.wantMembers("g", 1)
	r.c.Tick(110)
	r.wantMembers("g")
}

// A long log is gone through at once.
func TestRunOfALongLog(t *testing.T) {
	r := pair(t)
	for range 3000 {
		r.put(record(api.Meta{Kind: groups.Read, Name: "g"}))
	}
	r.want(r.c.Ask(0, join("g", 0)))
	r.fetched()
	r.want(r.c.Run(0), tells(join("g", 0), member(1, 1)))
}
