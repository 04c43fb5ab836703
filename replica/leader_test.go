package replica_test

import (
	"math"
	"reflect"
	"slices"
	"strconv"
	"strings"
	"testing"

	"logboom/api"
	"logboom/dedup"
	"logboom/replica"
	"logboom/store"
)

// F1

func TestLeadRefuses(t *testing.T) {
	s, d := kept(t, 1, 1)
	before := picture(d)
	refuse := func(what string, me int, p api.Part, lag int) {
		t.Helper()
		x, e := replica.Lead(me, s, p, 0, lag)
		if x != nil || e != api.ErrArg || picture(d) != before {
			t.Fatalf("%s: got %v, %d", what, x, int(e))
		}
	}
	for i, p := range wrongParts() {
		refuse("the wrong state "+strconv.Itoa(i), 1, p, 10)
	}
	for _, me := range l(2, 3, 4, 0, -1, 8, math.MaxInt, math.MinInt) {
		refuse("me "+strconv.Itoa(me), me, known(), 10)
	}
	p := known()
	p.Leader = 0
	refuse("nobody leads", 0, p, 10)
	refuse("nobody leads", 1, p, 10)
	p.Leader = -1
	refuse("no broker leads", -1, p, 10)
	for _, lag := range l(0, -1, api.MaxTick+1, math.MaxInt, math.MinInt) {
		refuse("lag "+strconv.Itoa(lag), 1, known(), lag)
	}
	for _, lag := range l(1, 2, api.MaxTick) {
		for _, now := range l(0, -1, math.MaxInt, math.MinInt) {
			if x, e := replica.Lead(1, s, known(), now, lag); x == nil || e != api.OK {
				t.Fatalf("lag %d: %d", lag, int(e))
			}
		}
	}
}

func TestLeadTellsTheErrorOfSync(t *testing.T) {
	s, d := kept(t, 1)
	for _, name := range d.Names() {
		must(t, d.Remove(name))
	}
	for _, s := range []*store.Store{s, new(store.Store)} {
		if x, e := replica.Lead(1, s, known(), 0, 10); x != nil || e != api.ErrNone {
			t.Fatalf("got %v, %d", x, int(e))
		}
		if x, e := replica.Lead(1, s, known(), 0, 0); x != nil || e != api.ErrArg {
			t.Fatalf("an argument first: got %v, %d", x, int(e))
		}
		if x, e := replica.Follow(2, s, known(), 1, 1); x != nil || e != api.ErrNone {
			t.Fatalf("got %v, %d", x, int(e))
		}
		if x, e := replica.Follow(2, s, known(), 1, 0); x != nil || e != api.ErrArg {
			t.Fatalf("an argument first: got %v, %d", x, int(e))
		}
	}
}

func TestLeadMakesTheLogSafe(t *testing.T) {
	s, d := kept(t, 1, 1, 1)
	wantInt(t, "Safe", s.Log().Safe(), 0)
	x := lead(t, s, known())
	wantInt(t, "Safe", s.Log().Safe(), 3)
	wantInt(t, "Born", x.Born(), 3)
	wantInt(t, "High", x.High(), 0)
	if x.Store() != s {
		t.Fatal("another store")
	}
	d.Crash(nil)
	wantInt(t, "Next", opened(t, d).Log().Next(), 3)
}

func TestLeadBeginsWithTheHighThatWasSaved(t *testing.T) {
	for start := range 4 {
		for saved := start; saved < 6; saved++ {
			s, _ := kept(t, 1, 1, 1, 1, 1)
			must(t, s.Delete(start), s.Log().Save(saved))
			x := lead(t, s, known())
			wantInt(t, "High", x.High(), saved)
			wantInt(t, "Born", x.Born(), 5)
			x = lead(t, s, alone())
			wantInt(t, "High of one that is alone", x.High(), 5)
		}
	}
}

func TestLeadKeepsACopyOfTheState(t *testing.T) {
	s, _ := kept(t)
	moving := func() api.Part {
		p := known()
		p.Replicas, p.Adding, p.Removing = l(1, 2, 3, 4), l(4), l(3)
		return p
	}
	p, want := moving(), moving()
	x := lead(t, s, p)
	for _, list := range [][]int{p.Isr, p.Replicas, p.Adding, p.Removing} {
		list[0] = 6
	}
	q := x.Part()
	if !reflect.DeepEqual(q, want) {
		t.Fatalf("got %v", q)
	}
	for _, list := range [][]int{q.Isr, q.Replicas, q.Adding, q.Removing} {
		list[0] = 6
	}
	if !reflect.DeepEqual(x.Part(), want) {
		t.Fatalf("got %v", x.Part())
	}
}

// F2

func TestLearnRefuses(t *testing.T) {
	s, d := kept(t)
	now := known()
	now.Epoch, now.Version = 5, 7
	x := lead(t, s, now)
	produced(t, x, 1)
	m := ask(3, 1, 5)
	m.Epoch = 5
	x.Fetch(0, m)
	wantWish(t, x, 0, 1, 2, 3)
	before := picture(d)
	refuse := func(what string, p api.Part, want api.Errno) {
		t.Helper()
		wantErr(t, what, x.Learn(p, 50), want)
		if !reflect.DeepEqual(x.Part(), now) || picture(d) != before || x.High() != 0 {
			t.Fatalf("%s: the state is %v", what, x.Part())
		}
		wantWish(t, x, 100, 1, 2, 3)
	}
	for i, p := range wrongParts() {
		if p.Epoch == 2 {
			p.Epoch = 5
		}
		if p.Version == 1 {
			p.Version = 8
		}
		refuse("the wrong state "+strconv.Itoa(i), p, api.ErrArg)
	}
	// With what is ErrArg goes what would be refused otherwise, too.
	for _, epoch := range l(4, 5, 6) {
		for _, version := range l(6, 7, 8) {
			p := later(now, version, 1)
			p.Epoch = epoch
			p.Id = 2
			refuse("another partition", p, api.ErrArg)
			p.Id, p.Leader, p.Isr = 1, 2, l(1, 2)
			refuse("another leader", p, api.ErrArg)
			p.Leader = 0
			refuse("no leader", p, api.ErrArg)
			p.Leader, p.Isr = 1, l(1)
			want := api.OK
			switch {
			case epoch == 4 || epoch == 5 && version == 6:
				want = api.ErrFenced
			case epoch == 6:
				want = api.ErrNewer
			case version == 8:
				continue
			}
			refuse("epoch "+strconv.Itoa(epoch)+", version "+strconv.Itoa(version), p, want)
		}
	}
}

func TestLearnTakesALaterState(t *testing.T) {
	s, _ := kept(t, 1, 1)
	x := lead(t, s, known())
	p := later(known(), 9, 1, 3)
	p.Replicas, p.Adding, p.Removing, p.Min = l(1, 3, 5, 2), l(5), l(2), 2
	want := later(known(), 9, 1, 3)
	want.Replicas, want.Adding, want.Removing, want.Min = l(1, 3, 5, 2), l(5), l(2), 2
	must(t, x.Learn(p, 0))
	p.Isr[0], p.Replicas[0], p.Adding[0], p.Removing[0] = 7, 7, 7, 7
	if !reflect.DeepEqual(x.Part(), want) {
		t.Fatalf("got %v", x.Part())
	}
	// The same once more is no news.
	must(t, x.Learn(want, 0))
	wantErr(t, "an elder one", x.Learn(known(), 0), api.ErrFenced)
}

func TestLearnEndsTheWish(t *testing.T) {
	s, _ := kept(t, 1)
	x := lead(t, s, known())
	x.Fetch(5, ask(3, 1, 1))
	wantWish(t, x, 5, 1, 2, 3)
	x.Fetch(6, ask(2, 1, 1))
	wantInt(t, "High", x.High(), 1)
	// 3 is of the wish: what it lacks is not committed.
	produced(t, x, 1)
	x.Fetch(6, ask(2, 2, 2))
	wantInt(t, "High", x.High(), 1)
	must(t, x.Learn(later(known(), 2, 1, 2), 7))
	wantInt(t, "High without the wish", x.High(), 2)
	// 3 has no longer all that is committed.
	wantWish(t, x, 7)
	x.Fetch(7, ask(3, 2, 2))
	wantWish(t, x, 7, 1, 2, 3)
}

func TestLearnHasHighAdvance(t *testing.T) {
	s, _ := kept(t, 1, 1, 1)
	x := lead(t, s, later(known(), 1, 1, 2, 3))
	x.Fetch(0, ask(2, 2, 1))
	wantInt(t, "High", x.High(), 0)
	must(t, x.Learn(later(known(), 2, 1, 2), 0))
	wantInt(t, "High without 3", x.High(), 2)
	must(t, x.Learn(later(known(), 3, 1), 0))
	wantInt(t, "High alone", x.High(), 3)
	must(t, x.Learn(later(known(), 4, 1, 2, 3), 0))
	wantInt(t, "High never goes down", x.High(), 3)
}

func TestLearnOfReplicas(t *testing.T) {
	s, _ := kept(t, 1)
	x := lead(t, s, known())
	m := ask(2, 1, 1)
	m.Seq = x.Turn()
	x.Fetch(4, m)
	m.From = 3
	x.Fetch(4, m)
	wantInt(t, "Deleted", x.Deleted(), 0)
	// 3 goes, 4 comes: of 2 it knows what it knew, of 4 nothing.
	p := later(known(), 2, 1, 2, 4)
	p.Replicas = l(1, 2, 4)
	must(t, x.Learn(p, 20))
	wantInt(t, "Deleted", x.Deleted(), -1)
	if x.Turned(1) {
		t.Fatal("4 has not seen the turn")
	}
	// 2 was up at 4, 4 counts from when it was learnt of.
	wantWish(t, x, 13)
	wantWish(t, x, 14, 1, 4)
	must(t, x.Learn(later(p, 3, 1, 4), 21))
	wantWish(t, x, 29, 1, 2, 4)
	must(t, x.Learn(later(p, 4, 1, 4), 21))
	m = x.Fetch(29, ask(3, 1, 1))
	wantErr(t, "3 is none any more", m.Err, api.ErrArg)
	// 2 is up again, and 4 is late.
	x.Fetch(29, ask(2, 1, 1))
	wantWish(t, x, 30, 1, 2)
	// 3 is back: what it had asked is forgotten.
	must(t, x.Learn(later(known(), 5, 1, 2, 3), 40))
	wantInt(t, "Deleted", x.Deleted(), -1)
	if x.Turned(1) {
		t.Fatal("3 has not seen the turn since")
	}
	wantWish(t, x, 38)
	wantWish(t, x, 39, 1, 3)
	must(t, x.Learn(later(known(), 6, 1, 2), 41))
	x.Fetch(48, ask(2, 1, 1))
	wantWish(t, x, 49)
}

func TestDeleted(t *testing.T) {
	s, _ := kept(t, 2, 2, 2, 2)
	x := lead(t, s, later(known(), 1, 1, 2, 3))
	wantInt(t, "nobody has asked", x.Deleted(), -1)
	begun := func(from, start int) {
		t.Helper()
		m := ask(from, 4, 2)
		m.Start = start
		wantErr(t, "Fetch", x.Fetch(0, m).Err, api.OK)
	}
	begun(2, 0)
	wantInt(t, "3 has not asked", x.Deleted(), -1)
	begun(3, 0)
	wantInt(t, "all have asked", x.Deleted(), 0)
	must(t, x.Delete(3))
	wantInt(t, "the others have not deleted", x.Deleted(), 0)
	begun(2, 3)
	wantInt(t, "3 has not deleted", x.Deleted(), 0)
	begun(3, 2)
	wantInt(t, "3 has deleted less", x.Deleted(), 2)
	begun(3, 3)
	wantInt(t, "all have deleted", x.Deleted(), 3)
	begun(3, 4)
	wantInt(t, "3 has deleted more", x.Deleted(), 3)
	// Those that are not of the set do not count, those of a wish do.
	must(t, x.Learn(later(known(), 2, 1, 3), 0))
	begun(2, 0)
	wantInt(t, "without 2", x.Deleted(), 4)
	begun(2, 4)
	wantWish(t, x, 0, 1, 2, 3)
	begun(2, 1)
	wantInt(t, "2 is of the wish", x.Deleted(), 1)
	must(t, x.Learn(later(known(), 3, 1), 0))
	wantInt(t, "alone", x.Deleted(), 4)
}

// F3

func TestProduceGivesOffsetsAndTheEpoch(t *testing.T) {
	s, d := kept(t, 1)
	x := lead(t, s, alone())
	for i, epoch := range l(0, 1, 2, 3, -1, math.MaxInt, math.MinInt) {
		b := at(l(0, 5, -9, math.MaxInt)[i%4], of(epoch, 2))
		n, e := x.Produce(0, b)
		must(t, e)
		wantInt(t, "Produce", n, 1+2*i)
		wantInt(t, "High", x.High(), 3+2*i)
		b.Base, b.Epoch = n, 2
		list, e := x.Read(n, 1)
		must(t, e)
		wantBatches(t, "Read", list, b)
		b.Records[0].Value = "another"
	}
	// It is safe.
	d.Crash(nil)
	s = opened(t, d)
	wantInt(t, "Next", s.Log().Next(), 15)
	wantInt(t, "Last", s.Cache().Last(), 2)
}

func TestProduceAsksTheTable(t *testing.T) {
	s, d := kept(t)
	x := lead(t, s, known())
	for seq := range 7 {
		n, e := x.Produce(0, sent(7, 1, seq))
		must(t, e)
		wantInt(t, "Produce", n, seq)
	}
	before := picture(d)
	for seq := 2; seq < 7; seq++ {
		n, e := x.Produce(0, sent(7, 1, seq))
		must(t, e)
		wantInt(t, "one that is there", n, seq)
	}
	two := sent(7, 1, 7)
	two.Records = make([]api.Record, 0)
	for _, c := range []struct {
		b    api.Batch
		want api.Errno
	}{
		{sent(7, 1, 1), api.ErrDuplicate}, {sent(7, 1, 8), api.ErrOrder}, {sent(7, 0, 7), api.ErrFenced}, {sent(7, 2, 1), api.ErrOrder},
		{sent(8, 0, 1), api.ErrOrder}, {two, api.ErrArg}, {of(0, 65), api.ErrArg}, {sent(0, 0, 1), api.ErrArg}, {sent(-1, 0, 0), api.ErrArg},
		{sent(7, 1, api.MaxSeq+1), api.ErrOver}, {sent(7, api.MaxOffset+1, 0), api.ErrArg}, {api.Batch{}, api.ErrArg},
	} {
		if n, e := x.Produce(0, c.b); n != 0 || e != c.want {
			t.Fatalf("Produce(%v): got %d, %d, want %d", c.b, n, int(e), int(c.want))
		}
	}
	if picture(d) != before || x.High() != 0 {
		t.Fatal("something is changed")
	}
}

func TestProduceWithTooFewInSync(t *testing.T) {
	for min := 1; min <= 4; min++ {
		for n := 1; n <= 3; n++ {
			s, d := kept(t)
			p := later(known(), 1, l(1, 2, 3)[:n]...)
			p.Min = min
			x := lead(t, s, p)
			before := picture(d)
			at, e := x.Produce(0, of(0, 1))
			if n >= min {
				must(t, e)
				continue
			}
			// Ahead of all else: also of a batch that may not be.
			if at != 0 || e != api.ErrInsync || picture(d) != before {
				t.Fatalf("%d of %d: got %d, %d", n, min, at, int(e))
			}
			_, e = x.Produce(0, api.Batch{})
			wantErr(t, "a batch that may not be", e, api.ErrInsync)
			// Isr counts, not the wish.
			x.Fetch(0, ask(2, 0, -1))
			x.Fetch(0, ask(3, 0, -1))
			x.Wish(0)
			_, e = x.Produce(0, of(0, 1))
			wantErr(t, "with a wish", e, api.ErrInsync)
			p.Version, p.Min = 2, n
			must(t, x.Learn(p, 0))
			_, e = x.Produce(0, of(0, 1))
			must(t, e)
		}
	}
}

func TestProduceTellsTheStoresErrors(t *testing.T) {
	s, d := kept(t, 1, 1)
	x := lead(t, s, alone())
	before, tells := picture(d), stored(s)
	refuse := func(what string, b api.Batch, want api.Errno) {
		t.Helper()
		if n, e := x.Produce(0, b); n != 0 || e != want {
			t.Fatalf("%s: got %d, %d, want %d", what, n, int(e), int(want))
		}
		if picture(d) != before || stored(s) != tells || x.High() != 2 {
			t.Fatalf("%s: something is changed", what)
		}
	}
	long := of(0, 1)
	long.Records[0].Value = strings.Repeat("v", api.MaxText+1)
	refuse("a value that is too long", long, api.ErrLong)
	late := of(0, 1)
	late.Records[0].Time = -1
	refuse("no time", late, api.ErrArg)
	many := of(0, 5)
	for i := range many.Records {
		many.Records[i].Value = strings.Repeat("v", api.MaxText)
	}
	refuse("too many bytes", many, api.ErrLong)
	stuff(t, d, 20)
	before = picture(d)
	refuse("no room", of(0, 1), api.ErrFull)
	// A store with a later epoch than the leader's.
	s, d = kept(t, 3)
	x = lead(t, s, later(known(), 1, 1, 2))
	if n, e := x.Produce(0, of(0, 1)); n != 0 || e != api.ErrFenced || s.Log().Next() != 1 {
		t.Fatalf("got %d, %d", n, int(e))
	}
	if !slices.Contains(d.Names(), "p.epochs") {
		t.Fatal("no file of epochs")
	}
}

func TestProduceThatIsNotSafeIsNotCommitted(t *testing.T) {
	s, d := kept(t)
	x := lead(t, s, alone())
	produced(t, x, 1)
	// What others do to the disk makes Sync fail.
	name := "p-0000000000.log"
	text, _ := d.Read(name)
	must(t, d.Remove(name))
	if n, e := x.Produce(0, api.Batch{}); n != 0 || e != api.ErrArg {
		t.Fatalf("got %d, %d", n, int(e))
	}
	must(t, d.Replace(name, text))
	produced(t, x, 1)
	wantInt(t, "High", x.High(), 2)
	// Appended past the leader, and not safe.
	put(t, s, 2, 2)
	must(t, x.Learn(later(known(), 2, 1), 0))
	wantInt(t, "High", x.High(), 2)
	must(t, s.Sync())
	must(t, x.Learn(later(known(), 2, 1), 0))
	wantInt(t, "High: the state is no news", x.High(), 2)
	must(t, x.Learn(later(known(), 3, 1), 0))
	wantInt(t, "High", x.High(), 4)
}

// F5

func TestRead(t *testing.T) {
	s, _ := kept(t)
	x := lead(t, s, known())
	var list []api.Batch
	for i := range 6 {
		n, e := x.Produce(0, of(0, 1+i%3))
		must(t, e)
		list = append(list, at(n, of(2, 1+i%3)))
	}
	// Bases: 0 1 3 6 7 9, the end 12.
	x.Fetch(0, ask(2, 7, 2))
	wantInt(t, "High", x.High(), 7)
	for offset, want := range map[int][]api.Batch{0: list[:4], 1: list[1:4], 2: list[1:4], 5: list[2:4], 6: list[3:4], 7: nil} {
		got, e := x.Read(offset, 10000)
		must(t, e)
		wantBatches(t, "Read("+strconv.Itoa(offset)+")", got, want...)
	}
	for _, most := range l(1, 0, -1, math.MinInt) {
		got, e := x.Read(1, most)
		must(t, e)
		wantBatches(t, "one at least", got, list[1])
		got, e = x.Read(7, most)
		must(t, e)
		wantBatches(t, "what is not committed", got)
	}
	got, e := x.Read(0, math.MaxInt)
	must(t, e)
	wantBatches(t, "all", got, list[:4]...)
	must(t, x.Delete(3))
	for _, offset := range l(2, 0, -1, 8, 12, 13, math.MaxInt, math.MinInt) {
		if got, e := x.Read(offset, 100); len(got) > 0 || e != api.ErrRange {
			t.Fatalf("Read(%d): got %v, %d", offset, got, int(e))
		}
	}
	// HIGH within a batch: that is not committed.
	x.Fetch(0, ask(2, 11, 2))
	wantInt(t, "High", x.High(), 11)
	got, e = x.Read(10, 10000)
	must(t, e)
	wantBatches(t, "Read(10)", got)
	got, e = x.Read(7, 10000)
	must(t, e)
	wantBatches(t, "Read(7)", got, list[4])
}

func TestDelete(t *testing.T) {
	s, d := kept(t)
	x := lead(t, s, known())
	for range 4 {
		_, e := x.Produce(0, of(0, 2))
		must(t, e)
	}
	x.Fetch(0, ask(2, 6, 2))
	before := picture(d)
	for _, offset := range l(7, 8, 9, math.MaxInt) {
		wantErr(t, "above High", x.Delete(offset), api.ErrRange)
	}
	if picture(d) != before {
		t.Fatal("the disk is another one")
	}
	for _, offset := range l(1, 5, -1, math.MinInt) {
		wantErr(t, "no place", x.Delete(offset), api.ErrRange)
	}
	must(t, x.Delete(2))
	wantInt(t, "Start", s.Log().Start(), 2)
	wantErr(t, "ahead of the start", x.Delete(0), api.ErrRange)
	must(t, x.Delete(6))
	wantInt(t, "Start", s.Log().Start(), 6)
	wantInt(t, "High", x.High(), 6)
	if table, e := d.Read("p.pids"); e != api.OK || table != dedup.New().Keep() {
		t.Fatalf("the table's file: %q, %d", table, int(e))
	}
	x.Fetch(0, ask(2, 8, 2))
	stuff(t, d, 0)
	must(t, d.Cut("p.pids", 0), d.Append("stuff", "12345"))
	wantErr(t, "no room", x.Delete(8), api.ErrFull)
	wantInt(t, "Start", s.Log().Start(), 6)
}

func TestTurns(t *testing.T) {
	s, _ := kept(t)
	x := lead(t, s, later(known(), 1, 1, 2, 3))
	told := func(from, turn int) int {
		t.Helper()
		m := ask(from, 0, -1)
		m.Seq = turn
		a := x.Fetch(0, m)
		wantErr(t, "Fetch", a.Err, api.OK)
		return a.Index
	}
	turned := func(turn int, want bool) {
		t.Helper()
		if x.Turned(turn) != want {
			t.Fatalf("Turned(%d): want %v", turn, want)
		}
	}
	for _, turn := range l(0, -1, math.MinInt) {
		turned(turn, true)
	}
	for _, turn := range l(1, 2, math.MaxInt) {
		turned(turn, false)
	}
	wantInt(t, "Index", told(2, 0), 0)
	wantInt(t, "Turn", x.Turn(), 1)
	wantInt(t, "Turn", x.Turn(), 2)
	wantInt(t, "Index", told(2, 0), 2)
	told(2, 2)
	turned(1, false)
	told(3, 1)
	turned(1, true)
	turned(2, false)
	told(3, 2)
	turned(2, true)
	turned(3, false)
	// What was seen stays seen.
	told(3, 0)
	told(2, -1)
	turned(2, true)
	wantInt(t, "Turn", x.Turn(), 3)
	turned(3, false)
	must(t, x.Learn(later(known(), 2, 1, 2), 0))
	told(2, 3)
	turned(3, true)
	// Those of a wish count, too.
	wantWish(t, x, 0, 1, 2, 3)
	turned(3, false)
	told(3, 5)
	turned(3, true)
	turned(4, false)
	must(t, x.Learn(later(known(), 3, 1), 0))
	turned(math.MaxInt, true)
}

// A request that is refused tells nothing of who made it.
func TestARefusedRequestIsNotHeard(t *testing.T) {
	s, _ := kept(t, 1, 2)
	x := lead(t, s, later(known(), 1, 1, 2))
	x.Turn()
	for _, spoil := range []func(*api.Msg){
		func(m *api.Msg) { m.Kind = api.FetchTell },
		func(m *api.Msg) { m.Part = 2 },
		func(m *api.Msg) { m.Epoch = 1 },
		func(m *api.Msg) { m.Epoch = 3 },
		func(m *api.Msg) { m.Last = 0 },
		func(m *api.Msg) { m.Last = 1 },
		func(m *api.Msg) { m.Last = -2 },
		func(m *api.Msg) { m.Start = -1 },
		func(m *api.Msg) { m.Offset = 3 },
	} {
		m := ask(2, 2, 2)
		m.Seq = 1
		spoil(&m)
		if a := x.Fetch(9, m); a.Err == api.OK {
			t.Fatalf("%v: it was answered", m)
		}
		if x.High() != 0 || x.Turned(1) || x.Deleted() != -1 {
			t.Fatalf("%v: it was heard", m)
		}
	}
	wantWish(t, x, 9)
	wantWish(t, x, 10, 1)
}

// F6

func TestWishWithoutThoseThatAreLate(t *testing.T) {
	s, _ := kept(t)
	x, e := replica.Lead(1, s, later(known(), 1, 3, 1, 2), 100, 10)
	must(t, e)
	produced(t, x, 1)
	// Nobody has asked: each counts from when the leader began.
	wantWish(t, x, 109)
	x.Fetch(105, ask(2, 0, -1)) // not from the end on
	x.Fetch(106, ask(3, 1, 2))
	wantWish(t, x, 109)
	wantWish(t, x, 110, 1, 3)
	// That again, whatever comes.
	x.Fetch(111, ask(2, 1, 2))
	wantWish(t, x, 200, 1, 3)
	wantWish(t, x, 0, 1, 3)
	must(t, x.Learn(later(known(), 2, 1, 2, 3), 300))
	wantWish(t, x, 115)
	wantWish(t, x, 116, 1, 2)
	must(t, x.Learn(later(known(), 3, 1, 2, 3), 300))
	wantWish(t, x, 121, 1)
	// The leader itself is never late.
	must(t, x.Learn(later(known(), 4, 1), 300))
	produced(t, x, 1)
	wantWish(t, x, 100000)
}

func TestWishOfALongAndAShortLag(t *testing.T) {
	for _, lag := range l(1, api.MaxTick) {
		s, _ := kept(t)
		x, e := replica.Lead(1, s, known(), 7, lag)
		must(t, e)
		wantWish(t, x, 7+lag-1)
		wantWish(t, x, 7-lag)
		wantWish(t, x, 7+lag, 1)
	}
}

func TestWishWithThoseThatHaveAll(t *testing.T) {
	s, _ := kept(t, 1, 1, 1)
	must(t, s.Log().Save(2))
	x := lead(t, s, known())
	wantInt(t, "Born", x.Born(), 3)
	wantInt(t, "High", x.High(), 2)
	wantWish(t, x, 0)
	x.Fetch(0, ask(3, 2, 1)) // up to High, but not to Born
	wantWish(t, x, 0)
	x.Fetch(0, ask(3, 3, 1))
	wantWish(t, x, 0, 1, 2, 3)
	must(t, x.Learn(later(known(), 2, 1, 2), 0))
	produced(t, x, 3)
	wantWish(t, x, 0, 1, 2, 3) // up to both, though not to the end
	must(t, x.Learn(later(known(), 3, 1, 2), 0))
	x.Fetch(0, ask(2, 5, 2))
	wantInt(t, "High", x.High(), 5)
	wantWish(t, x, 0) // up to Born, but not to High
	x.Fetch(0, ask(3, 4, 2))
	wantWish(t, x, 0)
	x.Fetch(0, ask(3, 5, 2))
	wantWish(t, x, 0, 1, 2, 3)
	// One that has all, and asked last a long time ago.
	must(t, x.Learn(later(known(), 4, 1, 2), 0))
	x.Fetch(1000, ask(2, 6, 2))
	x.Fetch(1000, ask(3, 6, 2))
	wantWish(t, x, 1009, 1, 2, 3)
	must(t, x.Learn(later(known(), 5, 1, 2), 0))
	wantWish(t, x, 2000, 1, 3)
}

func TestWishAsksWhereLogsBegin(t *testing.T) {
	s, _ := kept(t, 2, 2, 2)
	x := lead(t, s, alone())
	must(t, x.Delete(2))
	m := ask(3, 3, 2)
	m.Start = 1
	x.Fetch(0, m)
	wantWish(t, x, 0)
	m.Start = 4 // more than there is: the leader does not go with that
	x.Fetch(0, m)
	wantWish(t, x, 0)
	m.Start = 2
	x.Fetch(0, m)
	wantWish(t, x, 0, 1, 3)
	must(t, x.Learn(later(known(), 2, 1), 0))
	must(t, x.Delete(3))
	wantWish(t, x, 0)
}

func TestWishInTheOrderOfReplicas(t *testing.T) {
	s, _ := kept(t)
	p := later(known(), 1, 1, 5, 2)
	p.Replicas, p.Leader = l(6, 2, 7, 5, 1, 3), 5
	x := lead(t, s, p)
	for _, from := range l(3, 6, 1) {
		m := ask(from, 0, -1)
		m.To = 5
		x.Fetch(9, m)
	}
	// 2 is late, and 7 has never asked.
	wantWish(t, x, 9, 6, 2, 5, 1, 3)
	must(t, x.Learn(later(p, 2, 1, 2, 5), 9))
	wantWish(t, x, 10, 6, 5, 1, 3)
	// As a set: another order is no wish.
	must(t, x.Learn(later(p, 3, 3, 5, 1, 6), 9))
	wantWish(t, x, 10)
	// What was told is a copy.
	must(t, x.Learn(later(p, 4, 5), 9))
	m, _ := x.Wish(10)
	for i := range m.Ints {
		m.Ints[i] = 4
	}
	wantWish(t, x, 10, 6, 5, 1, 3)
}

func TestAWishCountsAtOnce(t *testing.T) {
	s, _ := kept(t)
	x := lead(t, s, known())
	x.Fetch(0, ask(3, 0, -1))
	wantWish(t, x, 0, 1, 2, 3)
	produced(t, x, 2)
	x.Fetch(0, ask(2, 2, 2))
	wantInt(t, "High", x.High(), 0)
	x.Fetch(0, ask(3, 1, 2))
	wantInt(t, "High", x.High(), 1)
	// One without a replica counts that one still, as long as it is on its way.
	must(t, x.Learn(later(known(), 2, 1, 2, 3), 0))
	x.Fetch(10, ask(2, 2, 2))
	wantWish(t, x, 10, 1, 2)
	wantInt(t, "High", x.High(), 1)
	must(t, x.Learn(later(known(), 3, 1, 2), 0))
	wantInt(t, "High", x.High(), 2)
}
