package replica_test

import (
	"math"
	"reflect"
	"slices"
	"strconv"
	"testing"

	"logboom/api"
	"logboom/dedup"
	"logboom/replica"
	"logboom/store"
)

// F7

func TestFollowRefuses(t *testing.T) {
	s, d := kept(t, 1, 1)
	before := picture(d)
	refuse := func(what string, me int, p api.Part, life, made int) {
		t.Helper()
		x, e := replica.Follow(me, s, p, life, made)
		if x != nil || e != api.ErrArg || picture(d) != before {
			t.Fatalf("%s: got %v, %d", what, x, int(e))
		}
	}
	for i, p := range wrongParts() {
		refuse("the wrong state "+strconv.Itoa(i), 2, p, 1, 1)
	}
	for _, me := range l(1, 0, 4, 8, -1, math.MaxInt, math.MinInt) {
		refuse("me "+strconv.Itoa(me), me, known(), 1, 1)
	}
	for _, n := range l(0, -1, api.MaxOffset+1, math.MaxInt, math.MinInt) {
		refuse("life", 2, known(), n, 1)
		refuse("made", 2, known(), 1, n)
	}
	nobody := known()
	nobody.Leader = 0
	refuse("me 0 where nobody leads", 0, nobody, 1, 1)
	for _, me := range l(1, 2, 3) {
		for _, n := range l(1, api.MaxOffset) {
			x, e := replica.Follow(me, s, nobody, n, n)
			must(t, e)
			if m := x.Ask(); m.To != 0 || m.From != me || m.Pid != n || m.PidEpoch != n {
				t.Fatalf("Ask: %v", m)
			}
		}
	}
}

func TestFollowMakesTheLogSafe(t *testing.T) {
	s, d := kept(t, 1, 1, 1)
	must(t, s.Delete(1), s.Log().Save(2))
	x := follow(t, 2, s, known())
	wantInt(t, "Safe", s.Log().Safe(), 3)
	wantInt(t, "High", x.High(), 2)
	if x.Store() != s || !reflect.DeepEqual(x.Part(), known()) {
		t.Fatal("another store, or another state")
	}
	d.Crash(nil)
	wantInt(t, "Next", opened(t, d).Log().Next(), 3)
}

func TestFollowKeepsACopyOfTheState(t *testing.T) {
	s, _ := kept(t)
	p := known()
	x := follow(t, 2, s, p)
	p.Isr[0], p.Replicas[1] = 9, 9
	q := x.Part()
	if !reflect.DeepEqual(q, known()) {
		t.Fatalf("got %v", q)
	}
	q.Isr[0], q.Replicas[1] = 9, 9
	if !reflect.DeepEqual(x.Part(), known()) {
		t.Fatalf("got %v", x.Part())
	}
}

func TestAsk(t *testing.T) {
	s, _ := kept(t, 1, 1, 3)
	p := known()
	p.Id, p.Epoch = 16, 5
	x, e := replica.Follow(3, s, p, 8, 9)
	must(t, e)
	want := api.Msg{Kind: api.FetchAsk, From: 3, To: 1, Id: 1, Part: 16, Epoch: 5, Offset: 3, Last: 3, Pid: 8, PidEpoch: 9}
	wantMsg(t, "Ask", x.Ask(), want)
	for i := 2; i < 5; i++ {
		want.Id = i
		wantMsg(t, "Ask", x.Ask(), want)
	}
	must(t, s.Delete(1))
	want.Id, want.Start = 5, 1
	wantMsg(t, "Ask", x.Ask(), want)
	must(t, s.Cut(2))
	want.Id, want.Offset, want.Last = 6, 2, 1
	wantMsg(t, "Ask", x.Ask(), want)
	must(t, s.Cut(1))
	want.Id, want.Offset, want.Last = 7, 1, -1
	wantMsg(t, "Ask", x.Ask(), want)
}

// F8

// answer is what a leader of the examples says to what a follower has asked.
func answer(m api.Msg, e api.Errno) api.Msg {
	return api.Msg{Kind: api.FetchTell, From: m.To, To: m.From, Id: m.Id, Part: m.Part, Epoch: m.Epoch, Pid: m.Pid, PidEpoch: m.PidEpoch, Err: e}
}

func TestTakeOfWhatIsNotWaitedFor(t *testing.T) {
	for _, leader := range l(1, 0) {
		p := known()
		p.Leader = leader
		s, d := kept(t)
		x, e := replica.Follow(2, s, p, 5, 6)
		must(t, e)
		wantErr(t, "nothing was asked", x.Take(answer(api.Msg{To: leader, Part: 1, Epoch: 2, Pid: 5, PidEpoch: 6}, api.OK)), api.ErrState)
		elder := answer(x.Ask(), api.OK)
		elder.Batches = []api.Batch{of(2, 1)}
		m := answer(x.Ask(), api.OK)
		m.Batches = []api.Batch{of(2, 1)}
		m.High, m.Index = 1, 4
		before := picture(d)
		wantErr(t, "an elder one", x.Take(elder), api.ErrState)
		for i, spoil := range []func(*api.Msg){
			func(m *api.Msg) { m.Kind = api.FetchAsk },
			func(m *api.Msg) { m.Kind = api.AppendTell },
			func(m *api.Msg) { m.Kind = 0 },
			func(m *api.Msg) { m.From = 3 },
			func(m *api.Msg) { m.From = 2 },
			func(m *api.Msg) { m.From = 1 - leader },
			func(m *api.Msg) { m.Part = 2 },
			func(m *api.Msg) { m.Part = 0 },
			func(m *api.Msg) { m.Epoch = 1 },
			func(m *api.Msg) { m.Epoch = 3 },
			func(m *api.Msg) { m.Pid = 4 },
			func(m *api.Msg) { m.Pid = 6 },
			func(m *api.Msg) { m.PidEpoch = 5 },
			func(m *api.Msg) { m.PidEpoch = 7 },
			func(m *api.Msg) { m.Id = 1 },
			func(m *api.Msg) { m.Id = 3 },
			func(m *api.Msg) { m.Id = 0 },
		} {
			for _, e := range []api.Errno{api.OK, api.ErrRange, api.ErrOrder, api.ErrLeader} {
				other := m
				other.Err = e
				spoil(&other)
				wantErr(t, "answer "+strconv.Itoa(i), x.Take(other), api.ErrState)
			}
		}
		if picture(d) != before || x.High() != 0 || s.Log().Next() != 0 {
			t.Fatal("something is changed")
		}
		// It is waited for still, whoever it says it is to.
		m.To = 77
		must(t, x.Take(m))
		wantInt(t, "Next", s.Log().Next(), 1)
		wantErr(t, "the same again", x.Take(m), api.ErrState)
		wantInt(t, "Seq", x.Ask().Seq, 4)
	}
}

func TestAnAnswerIsTakenOnceWhateverItSays(t *testing.T) {
	s, _ := kept(t)
	x := follow(t, 2, s, known())
	for _, e := range []api.Errno{api.OK, api.ErrRange, api.ErrOrder, api.ErrFenced, api.ErrNewer, api.ErrArg, api.ErrLeader, api.ErrState, 99, -1} {
		m := answer(x.Ask(), e)
		m.Text = dedup.New().Keep()
		want := e
		if e == api.ErrRange || e == api.ErrOrder {
			want = api.OK
		}
		wantErr(t, "Take", x.Take(m), want)
		wantErr(t, "the same again", x.Take(m), api.ErrState)
		m.Err = api.OK
		wantErr(t, "another of the same number", x.Take(m), api.ErrState)
	}
}

func TestTakeOfAnErrorChangesNothing(t *testing.T) {
	s, d := kept(t, 1, 1)
	x := follow(t, 2, s, known())
	before := picture(d)
	m := answer(x.Ask(), api.ErrLeader)
	m.Batches, m.High, m.Start, m.Index, m.Last, m.Text = []api.Batch{at(2, of(2, 1))}, 2, 1, 1, -1, dedup.New().Keep()
	wantErr(t, "Take", x.Take(m), api.ErrLeader)
	if picture(d) != before || x.High() != 0 || x.Ask().Seq != 0 {
		t.Fatal("something is changed")
	}
}

func TestTakeOfBatches(t *testing.T) {
	s, d := kept(t, 1)
	x := follow(t, 2, s, known())
	m := answer(x.Ask(), api.OK)
	m.Batches = []api.Batch{at(1, of(1, 2)), at(3, of(2, 1)), at(4, of(2, 3))}
	m.High, m.Index = 4, 3
	must(t, x.Take(m))
	m.Batches[0].Records[0].Value = "another"
	wantInt(t, "High", x.High(), 4)
	wantInt(t, "Safe", s.Log().Safe(), 7)
	wantBatches(t, "All", s.Log().All(), of(1, 1), at(1, of(1, 2)), at(3, of(2, 1)), at(4, of(2, 3)))
	wantMsg(t, "Ask", x.Ask(), api.Msg{Kind: api.FetchAsk, From: 2, To: 1, Id: 2, Part: 1, Epoch: 2, Offset: 7, Last: 2, Pid: 1, PidEpoch: 1, Seq: 3})
	d.Crash(nil)
	wantInt(t, "Next behind a crash", opened(t, d).Log().Next(), 7)
}

func TestTakeOfHigh(t *testing.T) {
	s, _ := kept(t, 1, 1, 1, 1)
	must(t, s.Log().Save(1))
	x := follow(t, 2, s, known())
	for _, c := range [][]int{{0, 1}, {-5, 1}, {math.MinInt, 1}, {3, 3}, {2, 3}, {9, 4}, {math.MaxInt, 4}, {1, 4}} {
		m := answer(x.Ask(), api.OK)
		m.High = c[0]
		must(t, x.Take(m))
		wantInt(t, "High of "+strconv.Itoa(c[0]), x.High(), c[1])
	}
	m := answer(x.Ask(), api.OK)
	m.High, m.Batches = 9, []api.Batch{at(4, of(2, 2))}
	must(t, x.Take(m))
	wantInt(t, "High", x.High(), 6)
}

func TestTakeOfTheTurn(t *testing.T) {
	s, _ := kept(t)
	x := follow(t, 2, s, known())
	for _, turn := range l(1, 5, 5, 2, 0, -1, math.MaxInt) {
		m := answer(x.Ask(), api.OK)
		m.Index = turn
		must(t, x.Take(m))
		wantInt(t, "Seq", x.Ask().Seq, turn)
	}
	// Another follower has seen none.
	wantInt(t, "Seq", follow(t, 2, s, known()).Ask().Seq, 0)
}

func TestTheFirstErrorOfABatchEndsThem(t *testing.T) {
	s, d := kept(t, 1, 1)
	x := follow(t, 2, s, known())
	for _, c := range []struct {
		list []api.Batch
		want api.Errno
		next int
	}{
		{[]api.Batch{at(3, of(2, 1)), at(2, of(2, 1))}, api.ErrOrder, 2},
		{[]api.Batch{at(2, of(0, 1)), at(2, of(2, 1))}, api.ErrFenced, 2},
		{[]api.Batch{at(2, of(2, 1)), at(3, of(1, 1)), at(3, of(2, 1))}, api.ErrFenced, 3},
		{[]api.Batch{at(3, of(2, 2)), at(5, of(2, 65)), at(6, of(2, 1)), at(5, of(2, 1))}, api.ErrMany, 5},
		{[]api.Batch{at(5, of(2, 1)), at(6, of(2, 0))}, api.ErrArg, 6},
	} {
		m := answer(x.Ask(), api.OK)
		m.Batches, m.High, m.Index = c.list, c.next, c.next
		wantErr(t, "Take", x.Take(m), c.want)
		wantInt(t, "Next", s.Log().Next(), c.next)
		// The rest is done all the same.
		wantInt(t, "Safe", s.Log().Safe(), c.next)
		wantInt(t, "High", x.High(), c.next)
		wantInt(t, "Seq", x.Ask().Seq, c.next)
	}
	stuff(t, d, 0)
	m := answer(x.Ask(), api.OK)
	m.Batches, m.Start = []api.Batch{at(6, of(2, 1))}, 6
	wantErr(t, "no room", x.Take(m), api.ErrFull)
	wantInt(t, "Start", s.Log().Start(), 0)
	must(t, d.Remove("stuff"))
	m = answer(x.Ask(), api.OK)
	m.Batches, m.Start = []api.Batch{at(6, of(2, 1)), at(9, of(2, 1))}, 7
	wantErr(t, "Take", x.Take(m), api.ErrOrder)
	wantInt(t, "Start", s.Log().Start(), 7)
}

func TestTakeTellsTheErrorOfSync(t *testing.T) {
	s, d := kept(t, 1)
	x := follow(t, 2, s, known())
	must(t, d.Remove("p-0000000000.log"))
	m := answer(x.Ask(), api.OK)
	wantErr(t, "Take", x.Take(m), api.ErrNone)
	m = answer(x.Ask(), api.OK)
	m.Batches = []api.Batch{at(5, of(2, 1))}
	wantErr(t, "the first error", x.Take(m), api.ErrOrder)
}

func TestTakeOfTheStart(t *testing.T) {
	s, d := kept(t, 1, 1)
	_, e := s.Append(of(1, 2))
	must(t, e)
	x := follow(t, 2, s, known())
	starts := func(start, want int, list ...api.Batch) {
		t.Helper()
		m := answer(x.Ask(), api.OK)
		m.Start, m.Batches = start, list
		must(t, x.Take(m))
		wantInt(t, "Start", s.Log().Start(), want)
	}
	starts(0, 0)
	starts(-3, 0)
	starts(5, 0) // above the end
	starts(math.MaxInt, 0)
	starts(3, 0) // no place
	starts(1, 1)
	starts(0, 1)
	starts(2, 2)
	starts(5, 5, at(4, of(2, 1)))
	wantInt(t, "Next", s.Log().Next(), 5)
	starts(6, 6, at(5, of(2, 1)), at(6, of(2, 1)))
	stuff(t, d, 0)
	must(t, d.Remove("p.pids"))
	stuff(t, d, 0)
	starts(7, 6)
	must(t, d.Remove("stuff"))
	starts(7, 7)
}

func TestTakeOfErrRangeBeginsAnew(t *testing.T) {
	s, d := kept(t, 1, 1, 1)
	must(t, s.Log().Save(2))
	x := follow(t, 2, s, known())
	table := dedup.New()
	table.Note(at(20, sent(9, 0, 0)))
	table.Note(at(30, sent(9, 0, 1)))
	before, tells := picture(d), stored(s)
	for _, c := range []struct {
		start int
		text  string
		want  api.Errno
	}{
		{-1, table.Keep(), api.ErrArg}, {api.MaxOffset + 1, "", api.ErrArg}, {5, "", api.ErrShort}, {5, "junk!", api.ErrSum},
	} {
		m := answer(x.Ask(), api.ErrRange)
		m.Start, m.Text = c.start, c.text
		wantErr(t, "Take", x.Take(m), c.want)
		if picture(d) != before || stored(s) != tells || x.High() != 2 {
			t.Fatal("something is changed")
		}
	}
	m := answer(x.Ask(), api.ErrRange)
	m.Start, m.Text = 30, table.Keep()
	m.Batches, m.Index, m.High = []api.Batch{at(30, of(2, 1))}, 7, 40
	must(t, x.Take(m))
	wantInt(t, "High", x.High(), 30)
	wantMsg(t, "Ask", x.Ask(), api.Msg{Kind: api.FetchAsk, From: 2, To: 1, Id: 6, Part: 1, Epoch: 2, Offset: 30, Start: 30, Last: -1, Pid: 1, PidEpoch: 1})
	if n, e := s.Table().Ask(9, 0, 0, 1); n != 20 || e != api.OK {
		t.Fatalf("Ask: got %d, %d", n, int(e))
	}
	if n, e := s.Table().Ask(9, 0, 1, 1); n != -1 || e != api.OK {
		t.Fatalf("Ask: got %d, %d", n, int(e))
	}
	// Also to where it was, and to where it was not yet.
	for _, start := range l(30, 4, api.MaxOffset, 0) {
		m = answer(x.Ask(), api.ErrRange)
		m.Start, m.Text = start, dedup.New().Keep()
		must(t, x.Take(m))
		if x.High() != start || s.Log().Start() != start || s.Log().Next() != start {
			t.Fatalf("High %d, Start %d, Next %d", x.High(), s.Log().Start(), s.Log().Next())
		}
	}
	stuff(t, d, 0)
	m = answer(x.Ask(), api.ErrRange)
	m.Start, m.Text = 25, table.Keep()
	wantErr(t, "no room", x.Take(m), api.ErrFull)
	wantInt(t, "High", x.High(), 0)
}

func TestTakeOfErrOrderCuts(t *testing.T) {
	for _, c := range []struct{ last, index, next int }{
		// Its epochs: 1 up to 2, 3 up to 5, 5 up to 6; it begins at 1.
		{1, 2, 2}, {1, 1, 1}, {1, 0, 1}, {1, -9, 1}, {1, 6, 2}, {1, math.MaxInt, 2}, {2, 4, 2}, {2, 1, 1},
		{3, 5, 5}, {3, 4, 4}, {3, 9, 5}, {4, 9, 5}, {4, 3, 3},
		{5, 6, 6}, {5, 5, 5}, {9, 9, 6}, {9, 0, 1}, {math.MaxInt, 4, 4},
		{-1, 4, 4}, {-1, 0, 1}, {-1, math.MinInt, 1}, {-1, 6, 6}, {-1, 7, 6}, {-1, math.MaxInt, 6},
		{0, 6, 1}, {0, 0, 1}, {-2, 5, 1}, {math.MinInt, 5, 1},
	} {
		s, _ := kept(t, 1, 1, 3, 3, 3, 5)
		must(t, s.Delete(1), s.Log().Save(4))
		x := follow(t, 2, s, known())
		m := answer(x.Ask(), api.ErrOrder)
		m.Last, m.Index = c.last, c.index
		m.Batches, m.High, m.Start = []api.Batch{at(c.next, of(7, 1))}, 9, 3
		must(t, x.Take(m))
		what := strconv.Itoa(c.last) + ", " + strconv.Itoa(c.index)
		wantInt(t, "Next of "+what, s.Log().Next(), c.next)
		wantInt(t, "Start of "+what, s.Log().Start(), 1)
		wantInt(t, "High of "+what, x.High(), min(4, c.next))
		wantInt(t, "Seq", x.Ask().Seq, 0)
	}
}

func TestACutWithinABatch(t *testing.T) {
	s, _ := kept(t, 1)
	_, e := s.Append(of(1, 4))
	must(t, e)
	must(t, s.Log().Save(5))
	x := follow(t, 2, s, known())
	m := answer(x.Ask(), api.ErrOrder)
	m.Last, m.Index = 1, 3
	must(t, x.Take(m))
	wantInt(t, "Next", s.Log().Next(), 1)
	wantInt(t, "High", x.High(), 1)
}

// Followers and a leader together: what each of the chapter's answers is for.

func TestAFollowerCatchesUp(t *testing.T) {
	for _, c := range []struct {
		what             string
		leads, follows   []int
		deleted, forgone int
		rounds           int
	}{
		{"an empty one", l(1, 1, 3), nil, 0, 0, 2},
		{"a beginning", l(1, 1, 3), l(1, 1), 0, 0, 2},
		{"the same", l(1, 1, 3), l(1, 1, 3), 0, 0, 1},
		{"one of another epoch behind", l(1, 1, 3), l(1, 1, 2), 0, 0, 3},
		{"longer ones of other epochs", l(1, 3, 5), l(1, 2, 2, 4, 4), 0, 0, 4},
		{"one that has too much", l(1, 1), l(1, 1, 1, 1), 0, 0, 3},
		{"a log of which nothing is here", nil, l(1, 1), 0, 0, 3},
		{"one that ends where the other begins", l(1, 1, 3), l(1, 1), 2, 0, 3},
		{"one that ends ahead of where the other begins", l(1, 1, 3), l(1), 2, 0, 3},
		{"all is deleted", l(1, 1, 3), l(1, 1), 3, 0, 3},
		{"all is deleted of an epoch that goes on", l(1, 1, 3), l(1, 1, 3), 3, 0, 3},
		{"the follower has deleted more", l(1, 1, 3), l(1, 1, 3), 1, 2, 3},
	} {
		a, _ := kept(t, c.leads...)
		b, _ := kept(t, c.follows...)
		must(t, a.Delete(c.deleted), b.Delete(c.forgone))
		p := known()
		p.Epoch = 6
		x, y := lead(t, a, p), follow(t, 2, b, p)
		produced(t, x, 2)
		for range c.rounds {
			must(t, y.Take(x.Fetch(0, y.Ask())))
		}
		// Once more, so that each knows what the other has.
		must(t, y.Take(x.Fetch(0, y.Ask())))
		wantSame(t, c.what, x.Store(), y.Store())
		if n := x.Store().Log().Next(); x.High() != n || y.High() != n || n != len(c.leads)+2 {
			t.Fatalf("%s: High %d and %d, the end %d", c.what, x.High(), y.High(), n)
		}
		wantInt(t, c.what+": Deleted", x.Deleted(), max(c.deleted, c.forgone))
	}
}

// wantSame asks that two stores have one log.
func wantSame(t *testing.T, what string, a, b *store.Store) {
	t.Helper()
	if a.Log().Start() != b.Log().Start() || a.Log().Next() != b.Log().Next() || b.Log().Safe() != b.Log().Next() {
		t.Fatalf("%s: the logs go from %d to %d, and from %d to %d", what, a.Log().Start(), a.Log().Next(), b.Log().Start(), b.Log().Next())
	}
	wantBatches(t, what, b.Log().All(), a.Log().All()...)
	if !slices.Equal(a.Cache().All(), b.Cache().All()) {
		t.Fatalf("%s: the epochs are %v, and %v", what, a.Cache().All(), b.Cache().All())
	}
}
