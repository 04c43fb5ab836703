package replica_test

import (
	"math"
	"reflect"
	"slices"
	"strconv"
	"strings"
	"testing"

	"logboom/api"
	"logboom/disk"
	"logboom/replica"
	"logboom/store"
	"logboom/wire"
)

// known is the state of the chapter's examples.
func known() api.Part {
	return api.Part{Id: 1, Leader: 1, Epoch: 2, Version: 1, Isr: l(1, 2), Replicas: l(1, 2, 3), Min: 1}
}

// alone is a state whose leader is alone in its set.
func alone() api.Part {
	p := known()
	p.Isr = l(1)
	return p
}

// later is a state some versions later, with another set.
func later(p api.Part, version int, isr ...int) api.Part {
	p.Version, p.Isr = version, isr
	return p
}

func l(list ...int) []int { return list }

func made(t *testing.T, size int) *disk.Disk {
	t.Helper()
	d, e := disk.New(size)
	must(t, e)
	return d
}

// must ends the test at the first call that is refused.
func must(t *testing.T, es ...api.Errno) {
	t.Helper()
	for i, e := range es {
		if e != api.OK {
			t.Fatalf("call %d: %v", i, e)
		}
	}
}

func opened(t *testing.T, d *disk.Disk) *store.Store {
	t.Helper()
	s, e := store.Open(d, "p", 256)
	must(t, e)
	return s
}

// kept is a new store with batches of one record, of these epochs, none of them safe; and its disk.
func kept(t *testing.T, epochs ...int) (*store.Store, *disk.Disk) {
	t.Helper()
	d := made(t, 1000000)
	s := opened(t, d)
	put(t, s, epochs...)
	return s, d
}

// put appends batches of one record, of these epochs.
func put(t *testing.T, s *store.Store, epochs ...int) {
	t.Helper()
	for _, e := range epochs {
		_, err := s.Append(of(e, 1))
		must(t, err)
	}
}

func lead(t *testing.T, s *store.Store, p api.Part) *replica.Leader {
	t.Helper()
	x, e := replica.Lead(p.Leader, s, p, 0, 10)
	must(t, e)
	return x
}

func follow(t *testing.T, me int, s *store.Store, p api.Part) *replica.Follower {
	t.Helper()
	x, e := replica.Follow(me, s, p, 1, 1)
	must(t, e)
	return x
}

// of is a batch of an epoch, of no producer, with so many records.
func of(epoch, n int) api.Batch {
	b := api.Batch{Epoch: epoch}
	for i := range n {
		b.Records = append(b.Records, api.Record{Key: "key", Value: "v" + strconv.Itoa(i), Time: 9})
	}
	return b
}

// sent is a batch of one record, of a producer.
func sent(pid, epoch, seq int) api.Batch {
	b := of(0, 1)
	b.Pid, b.PidEpoch, b.Seq = pid, epoch, seq
	return b
}

func at(base int, b api.Batch) api.Batch {
	b.Base = base
	return b
}

func end(b api.Batch) int { return b.Base + len(b.Records) }

// produced has a leader take so many batches of one record.
func produced(t *testing.T, x *replica.Leader, n int) {
	t.Helper()
	for range n {
		_, e := x.Produce(0, of(0, 1))
		must(t, e)
	}
}

// ask is a follower's request in the epoch of the examples.
func ask(from, offset, last int) api.Msg {
	return api.Msg{Kind: api.FetchAsk, From: from, To: 1, Id: 7, Part: 1, Epoch: 2, Offset: offset, Last: last, Pid: 3, PidEpoch: 4}
}

// tell is what each answer to that has, with an error.
func tell(m api.Msg, e api.Errno) api.Msg {
	return api.Msg{Kind: api.FetchTell, From: m.To, To: m.From, Id: m.Id, Part: m.Part, Epoch: 2, Pid: m.Pid, PidEpoch: m.PidEpoch, Err: e}
}

// plain has lists of nothing be nil, so that two messages can be held against each other.
func plain(m api.Msg) api.Msg {
	m.Batches, m.Entries, m.Ints = slices.Clone(m.Batches), slices.Clone(m.Entries), slices.Clone(m.Ints)
	if len(m.Batches) == 0 {
		m.Batches = nil
	}
	if len(m.Entries) == 0 {
		m.Entries = nil
	}
	if len(m.Ints) == 0 {
		m.Ints = nil
	}
	return m
}

func wantMsg(t *testing.T, what string, got, want api.Msg) {
	t.Helper()
	if !reflect.DeepEqual(plain(got), plain(want)) {
		t.Fatalf("%s: got\n%v\nwant\n%v", what, got, want)
	}
}

func wantErr(t *testing.T, what string, got, want api.Errno) {
	t.Helper()
	if got != want {
		t.Fatalf("%s: got %d, want %d", what, int(got), int(want))
	}
}

func wantInt(t *testing.T, what string, got, want int) {
	t.Helper()
	if got != want {
		t.Fatalf("%s: got %d, want %d", what, got, want)
	}
}

func wantBatches(t *testing.T, what string, got []api.Batch, want ...api.Batch) {
	t.Helper()
	if len(got) != len(want) || len(want) > 0 && !reflect.DeepEqual(got, want) {
		t.Fatalf("%s: got %v, want %v", what, got, want)
	}
}

// wantWish asks for a wish for that set; of nobody: for none.
func wantWish(t *testing.T, x *replica.Leader, now int, set ...int) {
	t.Helper()
	p := x.Part()
	want := api.Msg{Kind: api.AlterAsk, From: p.Leader, Part: p.Id, Epoch: p.Epoch, Offset: p.Version, Ints: set}
	if len(set) == 0 {
		want = api.Msg{}
	}
	m, ok := x.Wish(now)
	if ok != (len(set) > 0) {
		t.Fatalf("Wish(%d): got %v, %v, want %v", now, m.Ints, ok, set)
	}
	wantMsg(t, "Wish("+strconv.Itoa(now)+")", m, want)
}

// picture is all that a disk tells of itself.
func picture(d *disk.Disk) string {
	var s strings.Builder
	s.WriteString("free " + strconv.Itoa(d.Free()))
	for _, name := range d.Names() {
		b, _ := d.Read(name)
		s.WriteString("\n" + name + " " + strconv.Itoa(d.Synced(name)) + " " + strconv.Quote(b))
	}
	return s.String()
}

// stored is all that a store tells of itself.
func stored(s *store.Store) string {
	var b strings.Builder
	for _, n := range l(s.Log().Start(), s.Log().Next(), s.Log().Safe(), s.Log().Saved()) {
		b.WriteString(strconv.Itoa(n) + " ")
	}
	for _, x := range s.Log().All() {
		bytes, _ := wire.Batch(x)
		b.WriteString(strconv.Quote(bytes))
	}
	for _, x := range s.Cache().All() {
		b.WriteString(" " + strconv.Itoa(x.Term) + " " + strconv.Itoa(x.Index))
	}
	return b.String() + strconv.Quote(s.Table().Keep())
}

// stuff fills the disk but for so many bytes, by a file of another.
func stuff(t *testing.T, d *disk.Disk, free int) {
	t.Helper()
	d.Remove("stuff")
	must(t, d.Append("stuff", strings.Repeat("x", d.Free()-free)), d.Sync("stuff"))
}

// wrongParts are states that are not right, all of them with the leader 1 and the id 1 where they can.
func wrongParts() []api.Part {
	var list []api.Part
	for _, spoil := range []func(*api.Part){
		func(p *api.Part) { p.Id = 0 },
		func(p *api.Part) { p.Id = 17 },
		func(p *api.Part) { p.Min = 0 },
		func(p *api.Part) { p.Epoch = 0 },
		func(p *api.Part) { p.Epoch = api.MaxOffset + 1 },
		func(p *api.Part) { p.Version = 0 },
		func(p *api.Part) { p.Version = math.MinInt },
		func(p *api.Part) { p.Isr = nil },
		func(p *api.Part) { p.Isr = l(1, 2, 2) },
		func(p *api.Part) { p.Isr = l(1, 4) },
		func(p *api.Part) { p.Isr = l(2, 3) },
		func(p *api.Part) { p.Replicas = nil },
		func(p *api.Part) { p.Replicas = l(1, 2, 8) },
		func(p *api.Part) { p.Replicas = make([]int, 100000) },
		func(p *api.Part) { p.Adding = l(4) },
		func(p *api.Part) { p.Removing = l(1, 2, 3) },
	} {
		p := known()
		spoil(&p)
		list = append(list, p)
	}
	return list
}

// the chapter's examples

func TestExamples(t *testing.T) {
	s, _ := kept(t)
	x := lead(t, s, known())
	n, e := x.Produce(0, of(9, 1))
	must(t, e)
	wantInt(t, "Produce", n, 0)
	wantInt(t, "High", x.High(), 0)
	b := of(2, 1)
	want := tell(ask(2, 0, -1), api.OK)
	want.Batches = []api.Batch{b}
	wantMsg(t, "Fetch of 0", x.Fetch(0, ask(2, 0, -1)), want)
	want = tell(ask(2, 1, 2), api.OK)
	want.High = 1
	wantMsg(t, "Fetch of 1", x.Fetch(0, ask(2, 1, 2)), want)
	wantInt(t, "High", x.High(), 1)
	m := ask(2, 1, 2)
	m.Epoch = 1
	wantMsg(t, "Fetch of epoch 1", x.Fetch(0, m), tell(m, api.ErrFenced))
	m.Epoch = 3
	wantMsg(t, "Fetch of epoch 3", x.Fetch(0, m), tell(m, api.ErrNewer))
	wantMsg(t, "Fetch from 4", x.Fetch(0, ask(4, 1, 2)), tell(ask(4, 1, 2), api.ErrArg))
	want = tell(ask(2, 5, 2), api.ErrOrder)
	want.Last, want.Index = 2, 1
	wantMsg(t, "Fetch of 5", x.Fetch(0, ask(2, 5, 2)), want)
	x.Fetch(0, ask(3, 1, 2))
	wantWish(t, x, 0, 1, 2, 3)
	list, e := x.Read(0, 100)
	must(t, e)
	wantBatches(t, "Read", list, b)
	_, e = x.Read(2, 100)
	wantErr(t, "Read(2)", e, api.ErrRange)
}

// P1: those that were not made by Lead and Follow answer, too.
func TestOnesThatWereNotMade(t *testing.T) {
	x := new(replica.Leader)
	for _, m := range []api.Msg{{}, ask(1, 0, -1), ask(0, 0, -1), {Kind: api.FetchAsk}} {
		if a := x.Fetch(0, m); a.Err != api.ErrArg {
			t.Fatalf("Fetch: %v", a)
		}
	}
	wantErr(t, "Learn", x.Learn(known(), 0), api.ErrArg)
	wantErr(t, "Learn", x.Learn(api.Part{}, 0), api.ErrArg)
	if n, e := x.Produce(0, of(1, 1)); n != 0 || e == api.OK {
		t.Fatalf("Produce: %d, %d", n, int(e))
	}
	if list, e := x.Read(0, 100); len(list) > 0 || e != api.OK {
		t.Fatalf("Read: %v, %d", list, int(e))
	}
	if e := x.Delete(0); e == api.OK {
		t.Fatal("Delete was done")
	}
	if m, ok := x.Wish(100); ok {
		t.Fatalf("Wish: %v", m)
	}
	if x.High() != 0 || x.Deleted() != 0 || x.Born() != 0 || x.Part().Id != 0 || x.Turn() != 1 || !x.Turned(1) || x.Store() == nil {
		t.Fatal("numbers")
	}
	y := new(replica.Follower)
	wantErr(t, "Take", y.Take(api.Msg{Kind: api.FetchTell}), api.ErrState)
	wantMsg(t, "Ask", y.Ask(), api.Msg{Kind: api.FetchAsk, Id: 1, Last: -1})
	for _, e := range []api.Errno{api.OK, api.ErrRange, api.ErrOrder, api.ErrLeader} {
		y.Take(api.Msg{Kind: api.FetchTell, Id: y.Ask().Id, Err: e, Batches: []api.Batch{of(1, 1)}})
	}
	if y.High() != 0 || y.Part().Id != 0 || y.Store() == nil {
		t.Fatal("numbers")
	}
}
