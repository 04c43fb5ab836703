package coord_test

import (
	"math/rand"
	"slices"
	"strconv"
	"testing"

	"logboom/api"
	"logboom/coord"
	"logboom/disk"
	"logboom/groups"
	"logboom/replica"
	"logboom/store"
)

// chance draws what a walk does, always the same for one seed.
type chance struct{ *rand.Rand }

func (c chance) of(list ...int) int { return list[c.Intn(len(list))] }

// name is mostly that of a group that may be.
func (c chance) name() string {
	if c.Intn(40) == 0 {
		return []string{"", "A?", "0123456789abcdef0123456789abcdef", "0123456789abcdef0123456789abcdef-"}[c.Intn(4)]
	}
	return "g" + strconv.Itoa(c.Intn(c.of(2, 2, 10)))
}

// parts is mostly some partitions, rising.
func (c chance) parts() []int {
	var list []int
	odds := c.of(1, 2, 5)
	for id := 1; id <= 16; id++ {
		if c.Intn(odds) == 0 {
			list = append(list, id)
		}
	}
	switch c.Intn(30) {
	case 0:
		return append(list, c.of(0, 1, 17))
	case 1:
		return make([]int, 17)
	}
	return list
}

// request is mostly one of a member that there is.
func (c chance) request(g *groups.Groups) api.Msg {
	name := c.name()
	id, gen := c.Intn(4), g.Gen(name)+c.of(0, 0, 0, 0, 1, -1)
	if list := g.Members(name); len(list) > 0 && c.Intn(10) > 0 {
		id = list[c.Intn(len(list))]
	}
	m := ask(c.of(groups.Join, groups.Leave, groups.Commit, groups.Commit, groups.Read, groups.Sync, beat, beat), name, id, gen)
	m.From, m.Id, m.High, m.Offset = 101+c.Intn(5), c.Intn(1000), c.Intn(17), c.Intn(100)
	switch m.Index {
	case groups.Join:
		m.Pid = c.of(0, 0, m.Pid)
		m.Ints = c.parts()
	case groups.Commit:
		m.Ints = l(c.Intn(c.of(3, 1000)))
		m.High = c.owned(g, name, id)
	}
	switch c.Intn(60) {
	case 0:
		m.Kind = c.Intn(29)
	case 1:
		m.Index = c.of(append(wild(), 0, groups.Epoch, 8)...)
	case 2:
		m.Pid = c.of(wild()...)
	case 3:
		m.Seq, m.High = c.of(wild()...), c.of(wild()...)
	}
	return m
}

// owned is mostly a partition of a member's.
func (c chance) owned(g *groups.Groups, name string, id int) int {
	first := c.Intn(17)
	for i := range 17 {
		if part := (first + i) % 17; id > 0 && g.Owner(name, part) == id {
			return part
		}
	}
	return first
}

// foreign is a batch that the coordinator did not write.
func (c chance) foreign() api.Batch {
	var b api.Batch
	for range 1 + c.Intn(4) {
		m := api.Meta{Kind: 1 + c.Intn(7), Name: c.name(), A: c.Intn(4), B: c.Intn(9), C: c.Intn(17), D: c.Intn(9), List: c.parts()}
		if m.Kind == groups.Join && c.Intn(2) == 0 {
			m.A = 0
		}
		value := "junk"
		if len(m.Name) <= api.MaxName && c.Intn(4) > 0 {
			value = record(m)
		}
		b.Records = append(b.Records, api.Record{Key: "k", Value: value, Time: c.Intn(9)})
	}
	return b
}

// twin is a leader, over a disk of its own, that has all done to it that another one has.
type twin struct {
	d *disk.Disk
	x *replica.Leader
}

// twins are the coordinator's leader and the paper's.
type twins struct {
	chance
	t    *testing.T
	l    [2]twin
	c    *coord.Coord
	p    *paper
	now  int
	last api.Msg
	told map[api.Errno]int // how often each was answered
}

func begun(t *testing.T, c chance, told map[api.Errno]int) *twins {
	t.Helper()
	w := &twins{chance: c, t: t, told: told}
	size := c.of(1000, 3000, 50000)
	var p api.Part
	if p = state(1+c.Intn(2), 1, 2); c.Intn(3) == 0 {
		p = state(1, 1)
	}
	var ahead []api.Batch
	for range c.Intn(4) {
		ahead = append(ahead, c.foreign())
	}
	for i := range w.l {
		d, e := disk.New(size)
		must(t, e)
		s, e := store.Open(d, "p", 256)
		must(t, e)
		x, e := replica.Lead(1, s, p, 0, 1000)
		must(t, e)
		for _, b := range ahead {
			x.Produce(0, b)
		}
		w.l[i] = twin{d, x}
	}
	w.anew()
	return w
}

// anew is another coordinator over the same leader.
func (w *twins) anew() {
	w.t.Helper()
	session := w.of(1, 5, 20, 20, 0)
	c, e := coord.New(w.l[0].x, w.now, session)
	p, e2 := newPaper(w.l[1].x, w.now, session)
	if e != e2 || (c == nil) != (e != api.OK) {
		w.t.Fatalf("New: %v, want %v", e, e2)
	}
	if e == api.OK {
		w.c, w.p = c, p
	}
}

func (w *twins) both(do func(twin) api.Errno) {
	w.t.Helper()
	if a, b := do(w.l[0]), do(w.l[1]); a != b {
		w.t.Fatalf("the leaders are two: %v, %v", a, b)
	}
}

// fetch has the follower have some of what there is.
func (w *twins) fetch() {
	w.t.Helper()
	high, next := w.l[0].x.High(), w.l[0].x.Store().Log().Next()
	offset := high + w.Intn(next-high+1)
	w.both(func(y twin) api.Errno {
		return y.x.Fetch(w.now, api.Msg{Kind: api.FetchAsk, From: 2, Part: 1, Epoch: 3, Offset: offset, Last: y.x.Store().Cache().Last()}).Err
	})
}

// alter has the leader learn another set.
func (w *twins) alter() {
	w.t.Helper()
	p := w.l[0].x.Part()
	p.Version++
	p.Isr = [][]int{l(1), l(1, 2), l(2, 1)}[w.Intn(3)]
	w.both(func(y twin) api.Errno { return y.x.Learn(p, w.now) })
}

// lose has records that are not committed be others, if there is room for these: no two requests wait for one offset.
func (w *twins) lose() {
	w.t.Helper()
	if p := w.l[0].x.Part(); len(p.Isr) < p.Min || w.l[0].d.Free() < 5000 {
		return
	}
	log := w.l[0].x.Store().Log()
	at := w.l[0].x.High()
	if list := log.All(); len(list) == 0 || !slices.ContainsFunc(list, func(b api.Batch) bool { return b.Base == at }) {
		return
	}
	n := log.Next() - at
	if n > 8 {
		return
	}
	var b api.Batch
	for len(b.Records) < n {
		b.Records = append(b.Records, w.foreign().Records...)
	}
	w.both(func(y twin) api.Errno {
		must(w.t, y.x.Store().Cut(at))
		_, e := y.x.Produce(w.now, b)
		return e
	})
}

// stuff fills the disks, or makes room.
func (w *twins) stuff() {
	w.t.Helper()
	leaves := w.of(5, 60, 200)
	fills := w.Intn(2) == 0
	w.both(func(y twin) api.Errno {
		y.d.Remove("stuff")
		if n := y.d.Free() - leaves; fills && n > 0 {
			return y.d.Append("stuff", string(make([]byte, n)))
		}
		return api.OK
	})
}

// step does one thing to both.
func (w *twins) step() {
	w.t.Helper()
	if w.now += w.of(0, 0, 1, 1, 2, 3); w.Intn(200) == 0 {
		w.now = w.of(append(wild(), 0, 0)...)
	}
	switch w.Intn(24) {
	case 0, 1:
		w.hold(w.c.Run(w.now), w.p.run(w.now))
	case 2, 3, 4:
		w.hold(w.c.Tick(w.now), w.p.tick(w.now))
	case 5, 6, 7, 8:
		w.fetch()
	case 9:
		b := w.foreign()
		w.both(func(y twin) api.Errno {
			_, e := y.x.Produce(w.now, b)
			return e
		})
	case 10:
		if w.Intn(4) == 0 {
			w.stuff()
		}
	case 11:
		if w.Intn(4) == 0 {
			w.alter()
		}
	case 12:
		w.lose()
	case 13:
		if w.Intn(10) == 0 {
			w.anew()
		}
	default:
		// Some requests come twice.
		if w.Intn(4) > 0 {
			w.last = w.request(w.p.g)
		}
		w.hold(w.c.Ask(w.now, w.last), w.p.ask(w.now, w.last))
	}
}

// hold asks that two lists of answers are one.
func (w *twins) hold(got, want []api.Msg) {
	w.t.Helper()
	if !same(got, want) {
		w.t.Fatalf("got\n%+v\nwant\n%+v", got, want)
	}
	for _, m := range got {
		w.told[m.Err]++
	}
}

func (w *twins) holdAll() {
	w.t.Helper()
	if w.c.Ready() != w.p.ready || w.c.Open() != len(w.p.waits) {
		w.t.Fatalf("Ready %v, Open %d, want %v, %d", w.c.Ready(), w.c.Open(), w.p.ready, len(w.p.waits))
	}
	if got, want := toldOf(w.c.Groups()), toldOf(w.p.g); got != want {
		w.t.Fatalf("the groups are\n%s\nwant\n%s", got, want)
	}
}

// C1 to C5: any calls, one behind the other.
func TestWalks(t *testing.T) {
	told := map[api.Errno]int{}
	for seed := range 300 {
		w := begun(t, chance{rand.New(rand.NewSource(int64(seed)))}, told)
		if w.c == nil {
			continue
		}
		for i := range 250 {
			w.step()
			w.holdAll()
			if i%10 == 0 && picture(w.l[0].d) != picture(w.l[1].d) {
				t.Fatalf("the disks are\n%q\nwant\n%q", picture(w.l[0].d), picture(w.l[1].d))
			}
		}
	}
	for _, e := range []api.Errno{api.OK, api.ErrArg, api.ErrForm, api.ErrFull, api.ErrNone, api.ErrDuplicate, api.ErrInsync, api.ErrMember, api.ErrGen, api.ErrState} {
		if told[e] < 30 {
			t.Errorf("%d was told %d times", int(e), told[e])
		}
	}
}

// P4: two coordinators to which the same was done are the same.
func TestTwoOfTheSameCalls(t *testing.T) {
	for seed := range 10 {
		var list [2]string
		for i := range list {
			w := begun(t, chance{rand.New(rand.NewSource(int64(seed)))}, map[api.Errno]int{})
			if w.c == nil {
				continue
			}
			for range 200 {
				w.step()
			}
			list[i] = toldOf(w.c.Groups()) + picture(w.l[0].d)
		}
		if list[0] != list[1] {
			t.Errorf("seed %d: two of the same calls are two", seed)
		}
	}
}
