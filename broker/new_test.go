package broker_test

import (
	"slices"
	"strings"
	"testing"

	"logboom/api"
	"logboom/broker"
	"logboom/disk"
	"logboom/meta"
)

// E1: what a config may be, at its edges.
func TestRight(t *testing.T) {
	wantRight := func(want bool, change func(*broker.Config)) {
		t.Helper()
		c := config(1, 2, 3)
		change(&c)
		if broker.Right(c) != want {
			t.Errorf("%+v: %v", c, !want)
		}
	}
	for _, ids := range [][]int{l(1), l(7), l(1, 7), l(2, 3, 5), l(1, 2, 3, 4, 5, 6, 7)} {
		wantRight(true, func(c *broker.Config) { c.Brokers = ids })
	}
	for _, ids := range [][]int{nil, l(), l(0), l(8), l(0, 1), l(7, 8), l(1, 1), l(2, 1), l(1, 3, 2), l(1, 2, 2), l(1, 2, 3, 4, 5, 6, 7, 8), l(1, 2, 3, 4, 5, 6, 7, 7)} {
		wantRight(false, func(c *broker.Config) { c.Brokers = ids })
	}
	for _, n := range wild() {
		wantRight(false, func(c *broker.Config) { c.Brokers = l(n) })
	}
	for _, x := range []struct {
		field       func(*broker.Config) *int
		least, most int
	}{
		{func(c *broker.Config) *int { return &c.Wait }, 1, 1000000},
		{func(c *broker.Config) *int { return &c.Beat }, 1, 1000000000},
		{func(c *broker.Config) *int { return &c.Session }, 1, 1000000000},
		{func(c *broker.Config) *int { return &c.Lag }, 1, 1000000000},
		{func(c *broker.Config) *int { return &c.Segment }, 256, 1000000},
	} {
		for _, n := range append(wild(), 0, x.least-1, x.least, x.least+1, x.most-1, x.most, x.most+1) {
			wantRight(n >= x.least && n <= x.most, func(c *broker.Config) { *x.field(c) = n })
		}
	}
}

// E1: who may begin, in which life.
func TestNew(t *testing.T) {
	wantNew := func(want api.Errno, id int, c broker.Config, life int) {
		t.Helper()
		b, e := broker.New(id, c, newDisk(t, 1000), life, 0)
		if e != want || (b != nil) != (e == api.OK) {
			t.Errorf("New(%d, %+v, life %d): %v, want %v", id, c, life, e, want)
		}
	}
	c := config(2, 3, 5)
	for id := 0; id <= 8; id++ {
		want := api.ErrArg
		if id == 2 || id == 3 || id == 5 {
			want = api.OK
		}
		wantNew(want, id, c, 1)
	}
	for _, n := range wild() {
		wantNew(api.ErrArg, n, c, 1)
		if n != api.MaxOffset {
			wantNew(api.ErrArg, 2, c, n)
		}
	}
	wantNew(api.ErrArg, 2, c, 0)
	wantNew(api.OK, 2, c, api.MaxOffset)
	wantNew(api.ErrArg, 2, broker.Config{Brokers: l(2, 3, 5)}, 1)
	wantNew(api.ErrArg, 2, broker.Config{}, 1)
}

// E1: errors of Raft's log are told, but behind ErrArg.
func TestNewOnSpoiltDisks(t *testing.T) {
	for _, x := range []struct {
		name, bytes string
		want        api.Errno
	}{
		{"raft.term", "123", api.ErrShort},
		{"raft.term", "12345678", api.ErrSum},
		{"raft.snap", "123", api.ErrShort},
		{"raft.snap", "12345678", api.ErrSum},
		{"raft.log", strings.Repeat("\xff", 20), api.ErrForm},
	} {
		d := newDisk(t, 1000)
		must(t, d.Replace(x.name, x.bytes))
		was := picture(d)
		for want, id := range map[api.Errno]int{x.want: 1, api.ErrArg: 2} {
			if b, e := broker.New(id, config(1), d, 1, 0); e != want || b != nil {
				t.Errorf("%s %q: %v, want %v", x.name, x.bytes, e, want)
			}
		}
		if b, e := broker.New(1, config(1), d, 0, 0); e != api.ErrArg || b != nil {
			t.Errorf("%s %q, life 0: %v", x.name, x.bytes, e)
		}
		if picture(d) != was {
			t.Errorf("%s %q: the disk has %s", x.name, x.bytes, picture(d))
		}
	}
}

// E1, E7: a new broker knows nothing, and writes nothing.
func TestNewIsNew(t *testing.T) {
	r := rigged(t, 2, config(1, 2, 3), 1)
	wantIdle(t, r.b)
	if n := r.d.Names(); len(n) != 0 {
		t.Error("files", n)
	}
}

// wantIdle asks that a broker has nothing.
func wantIdle(t *testing.T, b *broker.Broker) {
	t.Helper()
	if b.Controls() || len(b.Leads()) != 0 || b.Image().Keep() != meta.New().Keep() {
		t.Error("Controls", b.Controls(), "Leads", b.Leads(), "Parts", b.Image().Parts())
	}
	for _, part := range append(wild(), 0, 1, 2, 16, 17) {
		if b.Log(part) != nil || b.High(part) != -1 {
			t.Error("of", part, "it has", b.Log(part), b.High(part))
		}
	}
}

// E1: the node's voters are Brokers, its election time Wait.
func TestNode(t *testing.T) {
	c := config(2, 3, 5)
	c.Wait = 3
	r := rigged(t, 3, c, 1)
	ask := func(to int) api.Msg { return api.Msg{Kind: api.VoteAsk, From: 3, To: to, Term: 1} }
	wantMsgs(t, r.tick(0))
	wantMsgs(t, r.tick(2))
	wantMsgs(t, r.tick(3), ask(2), ask(5))
}

// E1: it beats first at the tick at which it began.
func TestFirstBeat(t *testing.T) {
	r := rigged(t, 1, config(1, 2, 3), 4)
	r.now = 7
	r.begin(config(1, 2, 3), 4)
	r.term = 1
	r.feed()
	wantMsgs(t, r.tick(6))
	wantMsgs(t, r.tick(7), api.Msg{Kind: api.BeatAsk, From: 1, To: 2, Index: 4})
	wantMsgs(t, r.tick(11))
	wantMsgs(t, r.tick(12), api.Msg{Kind: api.BeatAsk, From: 1, To: 2, Index: 4})
}

// E1: what is handed in is not kept.
func TestConfigIsNotKept(t *testing.T) {
	ids := []int{1, 2, 3, 9}
	c := config(ids[:3]...)
	b, e := broker.New(1, c, newDisk(t, 1000), 1, 0)
	must(t, e)
	if !slices.Equal(ids, l(1, 2, 3, 9)) {
		t.Error("the list is", ids)
	}
	ids[1], ids[2] = 6, 7
	b.Tick(0, 0)
	wantMsgs(t, b.Tick(10, 0), api.Msg{Kind: api.VoteAsk, From: 1, To: 2, Term: 1}, api.Msg{Kind: api.VoteAsk, From: 1, To: 3, Term: 1})
}

// P1: a broker that New did not make is one of nobody.
func TestMadeByNobody(t *testing.T) {
	var b broker.Broker
	wantIdle(t, &b)
	for _, now := range append(wild(), 0, 1) {
		for _, draw := range append(wild(), 0, 1) {
			wantMsgs(t, b.Tick(now, draw))
		}
	}
	for kind := 0; kind <= api.KindLast+1; kind++ {
		for _, from := range l(0, 1, 101) {
			b.Step(0, api.Msg{Kind: kind, From: from, Part: 2})
			b.Step(0, api.Msg{Kind: kind, From: from, Part: 1, Term: 1, Name: "g", Index: 4, Batches: []api.Batch{batch("x")}})
		}
	}
	b.Tick(9, 0)
	wantIdle(t, &b)
}

// A disk that is full, or has too many files, harms no broker that begins.
func TestNewOnFullDisks(t *testing.T) {
	d := newDisk(t, 1)
	b, e := broker.New(1, config(1), d, 1, 0)
	must(t, e)
	for now := range 50 {
		wantMsgs(t, b.Tick(now, 0))
	}
	wantIdle(t, b)
	if len(d.Names()) != 0 {
		t.Error(d.Names())
	}
	var none disk.Disk
	if b, e := broker.New(1, config(1), &none, 1, 0); e != api.OK || b == nil {
		t.Error(e)
	}
}
