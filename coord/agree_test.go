package coord_test

import (
	"fmt"
	"math/rand"
	"testing"

	"logboom/api"
	"logboom/coord"
	"logboom/disk"
	"logboom/groups"
	"logboom/replica"
	"logboom/store"
	"logboom/wire"
)

// broker has the offsets' partition: it leads it, with a coordinator, or follows.
type broker struct {
	id, life, made int
	d              *disk.Disk
	s              *store.Store
	leads          *replica.Leader
	c              *coord.Coord
	follows        *replica.Follower
}

// asked is a request that was made of some coordinator.
type asked struct {
	m       api.Msg
	floor   int // the offset that was acknowledged of its partition, when it was asked
	answers int
}

// world is three brokers, all of them in sync. Who leads changes, and they learn of it late.
type world struct {
	chance
	t       *testing.T
	brokers []*broker
	p       api.Part
	now     int
	made    map[int]string // what groups were made of so much of the log
	asked   []asked
	commits int            // how many commits were asked: each one's offset, and its number
	acked   map[string]int // by group and partition: the greatest offset that was acknowledged
	given   map[string]int // members that a Join told
	oks     map[int]int    // how many requests of a kind were answered without an error
	readies int
}

func newWorld(t *testing.T, c chance) *world {
	t.Helper()
	w := &world{chance: c, t: t, made: map[int]string{}, acked: map[string]int{}, given: map[string]int{}, oks: map[int]int{}}
	w.p = api.Part{Id: 1, Leader: 1, Epoch: 1, Version: 1, Isr: l(1, 2, 3), Replicas: l(1, 2, 3), Min: 1 + c.Intn(3)}
	for id := 1; id <= 3; id++ {
		d, e := disk.New(1000000)
		must(t, e)
		w.brokers = append(w.brokers, &broker{id: id, life: 1, d: d, s: opened(t, d)})
		w.learn(w.brokers[id-1])
	}
	return w
}

func (w *world) any() *broker { return w.brokers[w.Intn(3)] }

// learn has a broker be what the state says.
func (w *world) learn(b *broker) {
	w.t.Helper()
	var e api.Errno
	switch {
	case w.p.Leader != b.id:
		if b.follows == nil || b.follows.Part().Epoch != w.p.Epoch {
			b.made++
			b.follows, e = replica.Follow(b.id, b.s, w.p, b.life, b.made)
			must(w.t, e)
		}
		b.leads, b.c = nil, nil
	case b.leads == nil || b.leads.Part().Epoch != w.p.Epoch:
		b.follows = nil
		b.leads, e = replica.Lead(b.id, b.s, w.p, w.now, 1000)
		must(w.t, e)
		b.c, e = coord.New(b.leads, w.now, 60)
		must(w.t, e)
	}
}

// change has another one lead.
func (w *world) change() {
	w.p.Leader, w.p.Epoch, w.p.Version = 1+w.Intn(3), w.p.Epoch+1, w.p.Version+1
}

// crash has a broker begin anew, with what its disk has.
func (w *world) crash(b *broker) {
	w.t.Helper()
	b.d.Crash(l(w.Intn(50), w.Intn(50)))
	b.s, b.life = opened(w.t, b.d), b.life+1
	b.leads, b.c, b.follows = nil, nil, nil
	// Whoever led leads again by another epoch alone.
	if w.p.Leader == b.id {
		w.change()
	}
}

// fetch has a follower ask, and sometimes lose the answer.
func (w *world) fetch(b *broker) {
	if b.follows == nil {
		return
	}
	m := b.follows.Ask()
	if y := w.brokers[m.To-1]; y.leads != nil {
		if a := y.leads.Fetch(w.now, m); w.Intn(10) > 0 {
			b.follows.Take(a)
		}
	}
}

// ask asks something of a coordinator.
func (w *world) ask(b *broker) {
	w.t.Helper()
	if b.c == nil {
		return
	}
	m := w.request(b.c.Groups())
	m.Kind, m.From, m.Id = api.GroupAsk, 101, len(w.asked)
	if m.Index == groups.Commit {
		w.commits++
		m.Offset, m.Ints = w.commits, l(w.commits)
	}
	floor, ok := w.acked[place(m)]
	if !ok {
		floor = -1
	}
	w.asked = append(w.asked, asked{m: m, floor: floor})
	open := b.c.Open()
	got := b.c.Ask(w.now, m)
	w.hear(b, got)
	if w.asked[m.Id].answers == 0 && b.c.Open() != open+1-len(got) {
		w.t.Fatalf("%+v neither waits nor is answered", m)
	}
}

// place is a partition of a group.
func place(m api.Msg) string { return fmt.Sprint(m.Name, " ", m.High) }

// hear asks of each answer that it may be: T6, C6.
func (w *world) hear(b *broker, list []api.Msg) {
	w.t.Helper()
	for _, a := range list {
		q := &w.asked[a.Id]
		q.answers++
		if q.answers > 1 || a.Index != q.m.Index {
			w.t.Fatalf("%+v is answered %d times, by %+v", q.m, q.answers, a)
		}
		if a.Err != api.OK {
			continue
		}
		w.oks[a.Index]++
		switch a.Index {
		case groups.Join:
			w.join(q.m, a)
		case groups.Commit:
			if a.Seq != q.m.Seq || a.Pid != q.m.Pid || a.Offset != q.m.Offset {
				w.t.Fatalf("%+v is answered by %+v", q.m, a)
			}
			w.acked[place(q.m)] = max(w.acked[place(q.m)], a.Offset)
		case groups.Read:
			if a.Offset < q.floor || a.Offset > w.commits {
				w.t.Fatalf("%+v is told %d, %d was acknowledged", q.m, a.Offset, q.floor)
			}
		}
	}
	if b.c.Ready() {
		w.holdAcked(b.c.Groups())
	}
}

func (w *world) join(m, a api.Msg) {
	w.t.Helper()
	who := fmt.Sprint(m.Name, " ", a.Pid)
	if m.Pid == 0 && w.given[who] > 0 || m.Pid > 0 && m.Pid != a.Pid {
		w.t.Fatalf("%s is given twice", who)
	}
	w.given[who]++
}

// holdAcked asks that what was acknowledged is known to each that is ready, but for those who were put off, and have not been told.
func (w *world) holdAcked(g *groups.Groups) {
	w.t.Helper()
	if g.Epoch() != w.p.Epoch {
		return
	}
	for _, name := range g.Names() {
		for part := range 17 {
			if least, ok := w.acked[fmt.Sprint(name, " ", part)]; ok && g.Offset(name, part) < least {
				w.t.Fatalf("%s %d: the offset is %d, %d was acknowledged", name, part, g.Offset(name, part), least)
			}
		}
	}
}

// agree asks that a coordinator, behind a Run, has made of what is committed what all others did, and what groups make of it.
func (w *world) agree(b *broker) {
	w.t.Helper()
	high, told := b.leads.High(), toldOf(b.c.Groups())
	if was, ok := w.made[high]; ok && was != told {
		w.t.Fatalf("of the log up to %d the broker %d makes\n%s\nanother one made\n%s", high, b.id, told, was)
	}
	w.made[high] = told
	g := groups.New()
	for _, x := range b.s.Log().All() {
		if x.Base >= high {
			break
		}
		m, e := wire.ReadMeta(x.Records[0].Value)
		must(w.t, e)
		g.Apply(m)
	}
	if toldOf(g) != told {
		w.t.Fatalf("of the log up to %d the broker %d makes\n%s\nit should be\n%s", high, b.id, told, toldOf(g))
	}
	if b.c.Ready() != (g.Epoch() == b.leads.Part().Epoch) {
		w.t.Fatalf("Ready: %v, the epoch is %d", b.c.Ready(), g.Epoch())
	}
}

func (w *world) run(b *broker) {
	w.t.Helper()
	if b.c == nil {
		return
	}
	was := b.c.Ready()
	if w.Intn(2) == 0 {
		w.hear(b, b.c.Run(w.now))
	} else {
		w.hear(b, b.c.Tick(w.now))
	}
	w.agree(b)
	if !was && b.c.Ready() {
		w.readies++
	}
}

func (w *world) step() {
	w.t.Helper()
	w.now += w.Intn(2)
	switch w.Intn(16) {
	case 0, 1, 2:
		w.run(w.any())
	case 3, 4:
		w.learn(w.any())
	case 5:
		if n := w.Intn(50); n < 2 {
			w.change()
		} else if n < 3 {
			w.crash(w.any())
		}
	case 6, 7, 8, 9, 10:
		w.fetch(w.any())
	default:
		w.ask(w.any())
	}
}

// calm has each lead once, with the others behind it: all that wait are answered, all have one log, all make the same of it.
func (w *world) calm() {
	w.t.Helper()
	for _, b := range w.brokers {
		w.p.Leader, w.p.Epoch, w.p.Version = b.id, w.p.Epoch+1, w.p.Version+1
		for _, x := range w.brokers {
			w.learn(x)
		}
		for range 60 {
			for _, x := range w.brokers {
				w.fetch(x)
			}
		}
		w.run(b)
		if !b.c.Ready() || b.c.Open() != 0 {
			w.t.Fatalf("the broker %d is ready: %v, open: %d", b.id, b.c.Ready(), b.c.Open())
		}
	}
}

// C6
func TestBrokersAgree(t *testing.T) {
	oks, readies := map[int]int{}, 0
	for seed := range 60 {
		w := newWorld(t, chance{rand.New(rand.NewSource(int64(seed)))})
		for range 2500 {
			w.step()
		}
		w.calm()
		for kind, n := range w.oks {
			oks[kind] += n
		}
		readies += w.readies
	}
	for _, kind := range l(groups.Join, groups.Leave, groups.Commit, groups.Read, groups.Sync, beat) {
		if oks[kind] < 50 {
			t.Errorf("the kind %d: %d were answered without an error", kind, oks[kind])
		}
	}
	if readies < 300 {
		t.Errorf("%d became ready", readies)
	}
}
