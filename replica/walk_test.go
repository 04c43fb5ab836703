package replica_test

import (
	"math"
	"math/rand"
	"reflect"
	"slices"
	"strconv"
	"testing"

	"logboom/api"
	"logboom/dedup"
	"logboom/disk"
	"logboom/replica"
	"logboom/store"
)

// chance makes messages and choices, always the same ones for one seed.
type chance struct{ *rand.Rand }

// any is a number that few would hand in.
func (c chance) any() int {
	return []int{-2, -1, 0, api.MaxOffset, api.MaxOffset + 1, math.MinInt, math.MaxInt}[c.Intn(7)]
}

// near is a number from a bit below the one to a bit above the other; sometimes it is any.
func (c chance) near(from, to int) int {
	if c.Intn(50) == 0 {
		return c.any()
	}
	return from - 1 + c.Intn(max(0, to-from)+3)
}

// batch is mostly the next one of a producer.
func (c chance) batch(s *store.Store) api.Batch {
	b := of(c.Intn(3), 1+c.Intn(3))
	if c.Intn(3) > 0 {
		b.Pid = 7 + c.Intn(2)
		for b.Seq < 200 {
			if _, e := s.Table().Ask(b.Pid, 0, b.Seq, len(b.Records)); e == api.OK {
				break
			}
			b.Seq++
		}
		b.Seq += []int{0, 0, 0, 0, 0, 0, 1, 2}[c.Intn(8)]
	}
	switch c.Intn(40) {
	case 0:
		b.Records = nil
	case 1:
		b.Records[0].Time = -1
	case 2:
		b.PidEpoch++
	}
	return b
}

// base is a disk with a store of some batches, of epochs up to 5, some of them deleted, some not safe.
func (c chance) base(t *testing.T) *disk.Disk {
	t.Helper()
	d := made(t, []int{300, 700, 1000000}[c.Intn(3)])
	s := opened(t, d)
	for range c.Intn(12) {
		b := c.batch(s)
		b.Epoch = max(0, s.Cache().Last()) + []int{0, 0, 1, 2}[c.Intn(4)]
		if b.Epoch <= 5 {
			s.Append(b)
		}
	}
	if list := s.Log().All(); len(list) > 0 && c.Intn(2) == 0 {
		s.Delete(list[c.Intn(len(list))].Base)
	}
	s.Log().Save(c.near(s.Log().Start(), s.Log().Next()))
	if c.Intn(2) == 0 {
		must(t, s.Sync())
	}
	return d
}

// twins are stores over two disks that are alike.
func twins(t *testing.T, d *disk.Disk) (*store.Store, *store.Store, *disk.Disk) {
	t.Helper()
	other := d.Clone()
	return opened(t, d), opened(t, other), other
}

// state is one with the leader 1, of that epoch and version.
func (c chance) state(epoch, version int) api.Part {
	ids := c.Perm(7)
	for i := range ids {
		ids[i]++
	}
	p := api.Part{Id: 3, Leader: 1, Epoch: epoch, Version: version, Min: 1 + c.Intn(2)}
	for _, id := range ids[:2+c.Intn(4)] {
		if id != 1 {
			p.Replicas = append(p.Replicas, id)
		}
	}
	p.Replicas = slices.Insert(p.Replicas, c.Intn(len(p.Replicas)+1), 1)
	for _, id := range p.Replicas {
		if id == 1 || c.Intn(2) == 0 {
			p.Isr = append(p.Isr, id)
		}
	}
	return p
}

// request is mostly one of a follower whose log is a beginning of the leader's.
func (c chance) request(x *paperLeader) api.Msg {
	log := x.s.Log()
	m := api.Msg{Kind: api.FetchAsk, From: x.p.Replicas[c.Intn(len(x.p.Replicas))], To: 1, Id: c.Intn(9), Part: 3, Epoch: x.p.Epoch, Last: -1, Pid: c.Intn(4), PidEpoch: c.Intn(4)}
	m.Offset, m.Start = log.Next(), log.Start()
	if c.Intn(2) == 0 {
		m.Offset = c.near(log.Start(), log.Next())
	}
	if c.Intn(3) == 0 {
		m.Start = c.near(log.Start(), log.Next())
	}
	for _, b := range log.All() {
		if b.Base < m.Offset {
			m.Last = b.Epoch
		}
	}
	m.Seq = c.near(0, x.turn)
	switch c.Intn(30) {
	case 0:
		m.Kind = 1 + c.Intn(28)
	case 1:
		m.From = c.near(0, 8)
	case 2:
		m.Part = c.near(1, 4)
	case 3:
		m.Epoch = c.near(x.p.Epoch, x.p.Epoch)
	case 4, 5, 6:
		m.Last = c.near(-1, 7)
	}
	return m
}

// F1 to F6: any calls, one behind the other.
func TestWalksOfALeader(t *testing.T) {
	told := map[api.Errno]int{}
	wishes := 0
	for seed := range 400 {
		wishes += walkLeader(t, chance{rand.New(rand.NewSource(int64(seed)))}, told)
	}
	for _, e := range []api.Errno{api.OK, api.ErrArg, api.ErrFull, api.ErrRange, api.ErrOrder, api.ErrDuplicate, api.ErrFenced, api.ErrNewer, api.ErrInsync} {
		if told[e] < 30 {
			t.Errorf("%d was told %d times", int(e), told[e])
		}
	}
	if wishes < 1000 {
		t.Errorf("%d wishes", wishes)
	}
}

func walkLeader(t *testing.T, c chance, told map[api.Errno]int) int {
	t.Helper()
	d := c.base(t)
	a, b, other := twins(t, d)
	p := c.state(5+c.Intn(2), 10)
	now, wishes := c.Intn(20), 0
	want, e := newPaperLeader(1, b, p, now, 10)
	must(t, e)
	x, e := replica.Lead(1, a, p, now, 10)
	must(t, e)
	for i := range 120 {
		what := "step " + strconv.Itoa(i)
		now += c.Intn(3)
		switch c.Intn(12) {
		case 0, 1, 2:
			m := c.batch(b)
			n, e := x.Produce(now, m)
			n2, e2 := want.produce(m)
			wantErr(t, what, e, e2)
			wantInt(t, what, n, n2)
			told[e]++
		case 3, 4, 5, 6:
			m := c.request(want)
			got := x.Fetch(now, m)
			wantMsg(t, what, got, want.fetch(now, m))
			told[got.Err]++
		case 7:
			offset, most := c.near(b.Log().Start(), want.high), c.near(0, 300)
			list, e := x.Read(offset, most)
			list2, e2 := want.read(offset, most)
			wantErr(t, what, e, e2)
			wantBatches(t, what, list, list2...)
			told[e]++
		case 8:
			offset := c.near(b.Log().Start(), want.high)
			if c.Intn(2) == 0 {
				e := x.Delete(offset)
				wantErr(t, what, e, want.delete(offset))
				told[e]++
			}
		case 9:
			want.turn++
			wantInt(t, what, x.Turn(), want.turn)
		case 10:
			m, ok := x.Wish(now)
			m2, ok2 := want.wants(now)
			if ok != ok2 {
				t.Fatalf("%s: Wish: got %v, want %v", what, m, m2)
			}
			wantMsg(t, what, m, m2)
			if ok {
				wishes++
			}
		case 11:
			q := c.learnt(want)
			e := x.Learn(q, now)
			wantErr(t, what, e, want.learn(q, now))
			told[e]++
		}
		want.wantAs(t, what, x, d, other, c.near(0, want.turn))
	}
	return wishes
}

// learnt is a state that follows, or another one.
func (c chance) learnt(x *paperLeader) api.Part {
	p := c.state(x.p.Epoch, x.p.Version+c.Intn(4)-1)
	if x.wished && c.Intn(2) == 0 {
		p = x.p
		p.Version, p.Isr = p.Version+1, slices.Clone(x.wish)
	}
	switch c.Intn(12) {
	case 0:
		p.Epoch = c.near(x.p.Epoch, x.p.Epoch)
	case 1:
		p.Id = c.near(2, 3)
	case 2:
		p.Leader = p.Isr[c.Intn(len(p.Isr))]
	case 3:
		p.Isr = append(p.Isr, c.any())
	}
	return p
}

// wantAs asks that the leader, its store and its disk tell what the paper and its own tell.
func (x *paperLeader) wantAs(t *testing.T, what string, got *replica.Leader, d, other *disk.Disk, turn int) {
	t.Helper()
	wantInt(t, what+": High", got.High(), x.high)
	wantInt(t, what+": Born", got.Born(), x.born)
	wantInt(t, what+": Deleted", got.Deleted(), x.deleted())
	if got.Turned(turn) != x.turned(turn) {
		t.Fatalf("%s: Turned(%d): want %v", what, turn, x.turned(turn))
	}
	if !reflect.DeepEqual(got.Part(), x.p) {
		t.Fatalf("%s: Part: got %v, want %v", what, got.Part(), x.p)
	}
	if stored(got.Store()) != stored(x.s) || picture(d) != picture(other) {
		t.Fatalf("%s: the stores are\n%.900s\n%.900s", what, stored(got.Store()), stored(x.s))
	}
}

// told is what a leader may say to a request, or another thing.
func (c chance) told(x *paperFollower) api.Msg {
	log := x.s.Log()
	m := api.Msg{Kind: api.FetchTell, From: x.p.Leader, To: x.me, Id: x.number, Part: 3, Epoch: x.p.Epoch, Pid: x.life, PidEpoch: x.made}
	m.Start, m.High, m.Index = c.near(log.Start(), log.Next()), c.near(log.Start(), log.Next()), c.Intn(5)
	switch c.Intn(12) {
	case 0:
		m.Err = api.ErrRange
		m.Text = []string{x.s.Table().Keep(), dedup.New().Keep(), "junk", ""}[c.Intn(4)]
	case 1, 2, 3:
		m.Err = api.ErrOrder
		m.Last, m.Index = c.near(-1, x.s.Cache().Last()), c.near(log.Start(), log.Next())
	case 4:
		m.Err = api.Errno(c.near(0, 23))
	default:
		next := log.Next()
		for range c.Intn(4) {
			b := at(next, c.batch(x.s))
			b.Epoch = max(0, x.s.Cache().Last()) + []int{0, 0, 0, 0, 1, -1}[c.Intn(6)]
			if c.Intn(12) == 0 {
				b.Base++
			}
			m.Batches = append(m.Batches, b)
			next = end(b)
		}
	}
	switch c.Intn(60) {
	case 0:
		m.Kind = 1 + c.Intn(28)
	case 1:
		m.From = c.near(0, 8)
	case 2:
		m.Part = c.near(1, 4)
	case 3:
		m.Epoch = c.near(x.p.Epoch, x.p.Epoch)
	case 4:
		m.Pid = c.near(x.life, x.life)
	case 5:
		m.PidEpoch = c.near(x.made, x.made)
	case 6:
		m.Id = c.near(x.number, x.number)
	}
	return m
}

// F7, F8: any calls, one behind the other.
func TestWalksOfAFollower(t *testing.T) {
	told := map[api.Errno]int{}
	for seed := range 400 {
		walkFollower(t, chance{rand.New(rand.NewSource(int64(seed)))}, told)
	}
	for _, e := range []api.Errno{api.OK, api.ErrArg, api.ErrFull, api.ErrSum, api.ErrShort, api.ErrOrder, api.ErrFenced, api.ErrState} {
		if told[e] < 30 {
			t.Errorf("%d was told %d times", int(e), told[e])
		}
	}
}

func walkFollower(t *testing.T, c chance, told map[api.Errno]int) {
	t.Helper()
	d := c.base(t)
	a, b, other := twins(t, d)
	p := c.state(6, 10)
	if c.Intn(10) == 0 {
		p.Leader = 0
	}
	me := p.Replicas[c.Intn(len(p.Replicas))]
	want, e2 := newPaperFollower(me, b, p, 4, 5)
	x, e := replica.Follow(me, a, p, 4, 5)
	wantErr(t, "Follow", e, e2)
	if e != api.OK {
		return
	}
	for i := range 100 {
		what := "step " + strconv.Itoa(i)
		if c.Intn(20) > 0 {
			wantMsg(t, what, x.Ask(), want.ask())
		}
		m := c.told(want)
		e := x.Take(m)
		wantErr(t, what, e, want.take(m))
		told[e]++
		wantInt(t, what+": High", x.High(), want.high)
		if stored(x.Store()) != stored(want.s) || picture(d) != picture(other) {
			t.Fatalf("%s: the stores are\n%.900s\n%.900s", what, stored(x.Store()), stored(want.s))
		}
		if !reflect.DeepEqual(x.Part(), p) {
			t.Fatalf("%s: Part: got %v, want %v", what, x.Part(), p)
		}
	}
}
