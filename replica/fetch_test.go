package replica_test

import (
	"math"
	"slices"
	"strconv"
	"strings"
	"testing"

	"logboom/api"
	"logboom/dedup"
	"logboom/replica"
	"logboom/store"
	"logboom/wire"
)

// begun is a leader of the epoch 6 over batches of one record of the epochs 1 (0, 1), 3 (2, 3, 4) and 5 (5).
func begun(t *testing.T) (*replica.Leader, *store.Store) {
	t.Helper()
	s, _ := kept(t, 1, 1, 3, 3, 3, 5)
	p := known()
	p.Epoch = 6
	return lead(t, s, p), s
}

// inSix is a request to that leader.
func inSix(from, offset, last int) api.Msg {
	m := ask(from, offset, last)
	m.Epoch = 6
	return m
}

// told is what each answer of that leader has.
func told(m api.Msg, e api.Errno) api.Msg {
	a := tell(m, e)
	a.Epoch = 6
	return a
}

// F4, what is refused

func TestFetchRefusesWhatIsNoRequest(t *testing.T) {
	x, s := begun(t)
	before := stored(s)
	for i, spoil := range []func(*api.Msg){
		func(m *api.Msg) { m.Kind = api.FetchTell },
		func(m *api.Msg) { m.Kind = api.VoteAsk },
		func(m *api.Msg) { m.Kind = 0 },
		func(m *api.Msg) { m.Kind = math.MaxInt },
		func(m *api.Msg) { m.Part = 0 },
		func(m *api.Msg) { m.Part = 2 },
		func(m *api.Msg) { m.From = 1 },
		func(m *api.Msg) { m.From = 0 },
		func(m *api.Msg) { m.From = 4 },
		func(m *api.Msg) { m.From = 8 },
		func(m *api.Msg) { m.From = -1 },
		func(m *api.Msg) { m.From = math.MaxInt },
		func(m *api.Msg) { m.From = math.MinInt },
		func(m *api.Msg) { m.Offset = -1 },
		func(m *api.Msg) { m.Offset = math.MinInt },
		func(m *api.Msg) { m.Start = -1 },
		func(m *api.Msg) { m.Start = math.MinInt },
		func(m *api.Msg) { m.Last = -2 },
		func(m *api.Msg) { m.Last = math.MinInt },
	} {
		// Whatever its epoch is: that is asked later.
		for _, epoch := range l(5, 6, 7) {
			m := inSix(2, 6, 5)
			m.Epoch = epoch
			spoil(&m)
			wantMsg(t, "message "+strconv.Itoa(i), x.Fetch(0, m), told(m, api.ErrArg))
		}
	}
	if stored(s) != before || x.High() != 0 || x.Deleted() != -1 {
		t.Fatal("something is changed")
	}
}

func TestFetchHoldsEpochsAgainstEachOther(t *testing.T) {
	x, _ := begun(t)
	for epoch, want := range map[int]api.Errno{
		5: api.ErrFenced, 0: api.ErrFenced, -1: api.ErrFenced, math.MinInt: api.ErrFenced, 7: api.ErrNewer, math.MaxInt: api.ErrNewer,
	} {
		// Whatever its offset is: that is asked later.
		for _, m := range []api.Msg{inSix(2, 6, 5), inSix(2, 99, -1), inSix(2, 0, 0)} {
			m.Epoch = epoch
			wantMsg(t, "epoch "+strconv.Itoa(epoch), x.Fetch(0, m), told(m, want))
		}
	}
}

// An answer goes back whence its request came, whoever the request says it is to.
func TestFetchAnswersForWhomItWasAsked(t *testing.T) {
	x, _ := begun(t)
	for _, to := range l(0, 1, 2, 5, -7, math.MaxInt) {
		m := inSix(2, 6, 5)
		m.To, m.Id, m.Pid, m.PidEpoch = to, to+1, to+2, to+3
		m.High, m.Term, m.Index, m.Err, m.Name, m.Text, m.Ints = 5, 5, 5, 5, "name", "text", l(1)
		want := told(m, api.OK)
		want.From, want.To = to, 2
		want.High = 6
		wantMsg(t, "Fetch", x.Fetch(0, m), want)
		m.Part = 9
		want = told(m, api.ErrArg)
		want.Part = 9
		wantMsg(t, "Fetch of another partition", x.Fetch(0, m), want)
	}
}

func TestFetchOfWhatIsGone(t *testing.T) {
	s, _ := kept(t)
	for i := range 6 {
		b := sent(7, 0, i)
		b.Epoch = 1 + i/2
		_, e := s.Append(b)
		must(t, e)
	}
	must(t, s.Delete(3))
	x := lead(t, s, known())
	table := s.Table().Keep()
	if len(table) < 10 {
		t.Fatalf("the table: %q", table)
	}
	gone := func(offset, last int) {
		t.Helper()
		m := ask(2, offset, last)
		want := tell(m, api.ErrRange)
		want.Start, want.Text = 3, table
		wantMsg(t, "Fetch of "+strconv.Itoa(offset)+", "+strconv.Itoa(last), x.Fetch(0, m), want)
	}
	for _, offset := range l(0, 1, 2) {
		for _, last := range l(-1, 0, 1, 2, 3, 9) {
			gone(offset, last)
		}
	}
	// The epochs up to 1 are gone.
	for _, offset := range l(3, 4, 6, 7, math.MaxInt) {
		gone(offset, 0)
		gone(offset, 1)
	}
	if m := x.Fetch(0, ask(2, 3, -1)); m.Err != api.OK || len(m.Batches) != 3 {
		t.Fatalf("Fetch of 3: %v", m)
	}
	if m := x.Fetch(0, ask(2, 3, 2)); m.Err != api.OK || len(m.Batches) != 3 {
		t.Fatalf("Fetch of 3: %v", m)
	}
}

func TestFetchWhereLogsPart(t *testing.T) {
	x, s := begun(t)
	before := stored(s)
	apart := func(offset, last, epoch, end int) {
		t.Helper()
		m := inSix(2, offset, last)
		want := told(m, api.ErrOrder)
		want.Last, want.Index = epoch, end
		wantMsg(t, "Fetch of "+strconv.Itoa(offset)+", "+strconv.Itoa(last), x.Fetch(0, m), want)
	}
	// An epoch that is not here: the one ahead of it, and where that ends.
	for _, offset := range l(0, 2, 6, 99) {
		apart(offset, 2, 1, 2)
		apart(offset, 4, 3, 5)
		apart(offset, 6, 5, 6)
		apart(offset, math.MaxInt, 5, 6)
	}
	// One that is here, and ends ahead.
	apart(3, 1, 1, 2)
	apart(math.MaxInt, 1, 1, 2)
	apart(6, 3, 3, 5)
	apart(7, 5, 5, 6)
	// Without an epoch: what is behind the end.
	apart(7, -1, -1, 6)
	apart(math.MaxInt, -1, -1, 6)
	if stored(s) != before || x.High() != 0 || x.Deleted() != -1 {
		t.Fatal("something is changed")
	}
	for _, c := range [][]int{{2, 1}, {1, 1}, {0, 1}, {5, 3}, {2, 3}, {0, 3}, {6, 5}, {0, 5}, {0, -1}, {6, -1}} {
		if m := x.Fetch(0, inSix(2, c[0], c[1])); m.Err != api.OK || len(m.Batches) != 6-c[0] {
			t.Fatalf("Fetch of %v: %v", c, m)
		}
	}
	// Of an empty log no epoch is known.
	s, _ = kept(t)
	x = lead(t, s, known())
	m := ask(2, 0, 1)
	want := tell(m, api.ErrRange)
	want.Text = dedup.New().Keep()
	wantMsg(t, "Fetch of an empty log", x.Fetch(0, m), want)
	m = ask(2, 1, -1)
	want = tell(m, api.ErrOrder)
	want.Last = -1
	wantMsg(t, "Fetch of an empty log", x.Fetch(0, m), want)
}

// F4, what is answered

func TestFetchTellsBatches(t *testing.T) {
	s, _ := kept(t)
	x := lead(t, s, known())
	var list []api.Batch
	for i := range 100 {
		n, e := x.Produce(0, of(0, 1+i%3))
		must(t, e)
		list = append(list, at(n, of(2, 1+i%3)))
	}
	x.Turn()
	for i, b := range list {
		for offset := b.Base; offset < end(b); offset++ {
			want := tell(ask(3, offset, 2), api.OK)
			want.Index = 1
			want.Batches = list[i:min(i+64, len(list))]
			wantMsg(t, "Fetch", x.Fetch(0, ask(3, offset, 2)), want)
		}
	}
	want := tell(ask(2, 199, 2), api.OK)
	want.Index, want.High = 1, 199
	wantMsg(t, "Fetch of the end", x.Fetch(0, ask(2, 199, 2)), want)
	// What is told is a copy.
	m := x.Fetch(0, ask(2, 0, -1))
	m.Batches[0].Records[0].Value = "another"
	m.Batches[1].Base = 99
	wantBatches(t, "Fetch", x.Fetch(0, ask(2, 0, -1)).Batches, list[:64]...)
}

func TestFetchTellsSoManyBytes(t *testing.T) {
	s, _ := kept(t)
	x := lead(t, s, known())
	b := of(0, 4)
	for i := range b.Records {
		b.Records[i].Value = strings.Repeat("v", 900)
	}
	for range 10 {
		_, e := x.Produce(0, b)
		must(t, e)
	}
	b.Epoch = 2
	bytes, _ := wire.Batch(b)
	// A batch has some 3660 bytes: four of them are less than 16384, five are more.
	if n := 16384 / len(bytes); n != 4 {
		t.Fatalf("%d bytes", len(bytes))
	}
	if m := x.Fetch(0, ask(2, 0, -1)); len(m.Batches) != 4 {
		t.Fatalf("%d batches", len(m.Batches))
	}
	if m := x.Fetch(0, ask(2, 28, 2)); len(m.Batches) != 3 {
		t.Fatalf("%d batches", len(m.Batches))
	}
}

// sized is a batch of five records, whose values have so many bytes each, but the last, which has others; and how many bytes it is.
func sized(t *testing.T, base, each, last int) (api.Batch, int) {
	t.Helper()
	b := at(base, of(2, 5))
	for i := range b.Records {
		b.Records[i].Value = strings.Repeat("v", each)
	}
	b.Records[4].Value = strings.Repeat("v", last)
	bytes, e := wire.Batch(b)
	must(t, e)
	return b, len(bytes)
}

func TestFetchTellsJustSoManyBytes(t *testing.T) {
	for _, more := range l(-1, 0, 1) {
		s, _ := kept(t)
		x := lead(t, s, known())
		left := 16384 + more
		for i := range 6 {
			b, n := sized(t, 5*i, 540, 540)
			if i == 5 {
				// As many bytes as are left, and one more or less.
				_, least := sized(t, 5*i, 540, 100)
				b, n = sized(t, 5*i, 540, 100+left-least)
			}
			left -= n
			_, e := x.Produce(0, b)
			must(t, e)
		}
		wantInt(t, "left", left, 0)
		want := 6
		if more > 0 {
			want = 5
		}
		wantInt(t, "batches", len(x.Fetch(0, ask(2, 0, -1)).Batches), want)
	}
}

func TestFetchHasHighAdvance(t *testing.T) {
	s, _ := kept(t, 1)
	x := lead(t, s, later(known(), 1, 3, 2, 1))
	produced(t, x, 4)
	for _, c := range []struct{ from, offset, last, high int }{
		{2, 5, 2, 0}, {3, 2, 2, 2}, {3, 1, 1, 2}, {3, 4, 2, 4}, {2, 0, -1, 4}, {3, 5, 2, 4}, {2, 3, 2, 4}, {2, 5, 2, 5},
	} {
		m := x.Fetch(0, ask(c.from, c.offset, c.last))
		wantErr(t, "Fetch", m.Err, api.OK)
		wantInt(t, "the answer's High", m.High, c.high)
		wantInt(t, "High", x.High(), c.high)
	}
	// What is not safe is not committed, whoever has it.
	put(t, s, 2)
	x.Fetch(0, ask(2, 6, 2))
	wantInt(t, "High", x.Fetch(0, ask(3, 6, 2)).High, 5)
	must(t, s.Sync())
	wantInt(t, "High", x.Fetch(0, ask(3, 6, 2)).High, 6)
}

func TestFetchOfAFollowerThatHasDeletedMore(t *testing.T) {
	s, d := kept(t, 2, 2, 2, 2)
	x := lead(t, s, known())
	deleted := func(from, offset, start, want int) api.Msg {
		t.Helper()
		m := ask(from, offset, 2)
		m.Start = start
		a := x.Fetch(0, m)
		wantErr(t, "Fetch", a.Err, api.OK)
		wantInt(t, "the answer's Start", a.Start, want)
		wantInt(t, "Start", s.Log().Start(), want)
		return a
	}
	deleted(3, 4, 1, 0) // above High
	deleted(2, 1, 2, 0) // likewise
	deleted(2, 1, 1, 1) // High is 1 by this request
	deleted(3, 4, 0, 1)
	deleted(2, 3, 1, 1)
	if m := deleted(3, 2, 3, 3); len(m.Batches) > 0 {
		t.Fatalf("what is deleted now is told: %v", m.Batches)
	}
	deleted(2, 4, 4, 4)
	wantInt(t, "High", x.High(), 4)
	// An error is passed over: 5 is no place; then there is no room.
	_, e := x.Produce(0, of(0, 2))
	must(t, e)
	deleted(2, 6, 5, 4)
	stuff(t, d, 0)
	must(t, d.Remove("p.pids"))
	must(t, d.Append("stuff", strings.Repeat("x", d.Free())))
	deleted(2, 6, 6, 4)
	must(t, d.Remove("stuff"))
	deleted(2, 6, 6, 6)
	if !slices.Contains(d.Names(), "p.pids") {
		t.Fatal("the table is not kept")
	}
}
