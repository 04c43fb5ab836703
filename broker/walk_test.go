package broker_test

import (
	"fmt"
	"math/rand"
	"slices"
	"strconv"
	"testing"

	"logboom/api"
	"logboom/broker"
	"logboom/disk"
	"logboom/meta"
)

// chance draws what a walk does, always the same for one seed.
type chance struct{ *rand.Rand }

func (c chance) of(list ...int) int { return list[c.Intn(len(list))] }

// name is mostly that of a topic that may be.
func (c chance) name() string {
	if c.Intn(30) == 0 {
		return []string{"", "A?", "0123456789abcdef0123456789abcdef"}[c.Intn(3)]
	}
	return "t" + strconv.Itoa(c.Intn(4))
}

// some are some of n ids, in any order.
func (c chance) some(n int) []int {
	var list []int
	for _, i := range c.Perm(n) {
		if c.Intn(2) == 0 {
			list = append(list, i+1)
		}
	}
	return list
}

// batch is one of a few producers, each of which sends its first batches again and again.
func (c chance) batch() api.Batch {
	var b api.Batch
	if c.Intn(2) == 0 {
		b.Pid, b.PidEpoch, b.Seq = 1+c.Intn(2), c.of(0, 0, 0, 0, 1), c.Intn(3)
	}
	for range 1 + c.Intn(2) {
		b.Records = append(b.Records, api.Record{Key: "k", Value: strconv.Itoa(c.Intn(1000)), Time: c.Intn(9)})
	}
	if c.Intn(5) == 0 {
		b.Records[0].Value = string(make([]byte, 500))
	}
	return b
}

// admin is what a client wishes of the controller.
func (c chance) admin(n int) api.Msg {
	m := api.Msg{Kind: api.AdminAsk, Index: c.of(meta.Topic, meta.Topic, meta.Move, meta.Move, meta.Stay, meta.Prefer, meta.Pid, meta.Pid)}
	switch m.Index {
	case meta.Topic:
		m.Name, m.High, m.Seq, m.Pid = c.name(), 1+c.Intn(3), 1+c.Intn(n), 1
		if c.Intn(3) == 0 {
			m.Pid = 1 + c.Intn(m.Seq)
		}
	case meta.Pid:
		m.High = c.of(0, 0, 1, 9)
	default:
		m.High, m.Ints = 1+c.Intn(5), c.some(n)
	}
	switch c.Intn(40) {
	case 0:
		m.Index = c.of(0, meta.Register, meta.Fence, meta.Unfence, meta.Alter, meta.Done, 11, -1, api.MaxOffset)
	case 1:
		m.Ints = make([]int, 65)
	}
	return m
}

// request is what a client asks of a broker.
func (c chance) request(n int) api.Msg {
	m := api.Msg{Kind: c.of(api.AdminAsk, api.ProduceAsk, api.ProduceAsk, api.ProduceAsk, api.ReadAsk, api.ReadAsk, api.DeleteAsk, api.InfoAsk, api.GroupAsk, api.GroupAsk)}
	switch m.Kind {
	case api.AdminAsk:
		m = c.admin(n)
	case api.ProduceAsk:
		m.Epoch = c.of(0, 0, 0, 1, 2, 5)
		for range c.of(1, 1, 1, 1, 1, 1, 1, 1, 0, 2) {
			m.Batches = append(m.Batches, c.batch())
		}
	case api.GroupAsk:
		m.Index, m.Name = c.of(1, 1, 2, 3, 4, 6, 7, 7, 5), "g"
		m.Pid, m.Seq, m.Ints = c.Intn(3), c.Intn(4), l(2, 3)
		if m.Index == 1 {
			m.Pid = 0
		}
	case api.InfoAsk:
		if c.Intn(2) == 0 {
			m.Name = c.name()
		}
	}
	if m.Kind != api.AdminAsk && m.Kind != api.GroupAsk {
		m.Part = c.of(1, 2, 2, 2, 3, 3, 4, 5, 16)
		m.Offset = c.of(0, c.Intn(4), c.Intn(40))
	}
	if c.Intn(60) == 0 {
		m.Part = c.of(0, 17, -1, api.MaxOffset)
	}
	m.From, m.Id = 101+c.Intn(3), c.Intn(1000)
	return m
}

// twin is a broker and its paper, each on a disk of its own; or, when it is down, the disks alone.
type twin struct {
	id, life int
	d        [2]*disk.Disk
	b        *broker.Broker
	p        *paper
}

// twins are all brokers, and what is on its way between them.
type twins struct {
	chance
	t     *testing.T
	c     broker.Config
	all   []*twin
	net   []api.Msg
	now   int
	apart [2]int // those between whom nothing goes
	told  map[string]int
	what  string // what is done now, told when a test fails
}

func begun(t *testing.T, c chance, told map[string]int) *twins {
	t.Helper()
	w := &twins{chance: c, t: t, told: told}
	n := c.of(1, 2, 3, 3, 3, 5)
	var ids []int
	for id := 1; id <= n; id++ {
		ids = append(ids, id)
	}
	w.c = broker.Config{Brokers: ids, Wait: c.of(4, 10), Beat: c.of(1, 3, 5), Session: c.of(6, 15, 30), Lag: c.of(3, 10, 20), Segment: c.of(256, 256, 1000)}
	size := c.of(2500, 6000, 200000, 200000, 200000)
	for _, id := range ids {
		x := &twin{id: id}
		for i := range x.d {
			x.d[i] = newDisk(t, size)
		}
		w.all = append(w.all, x)
		w.begin(x)
	}
	return w
}

// begin has a broker begin, both with one error.
func (w *twins) begin(x *twin) {
	w.t.Helper()
	x.life++
	var e, e2 api.Errno
	x.b, e = broker.New(x.id, w.c, x.d[0], x.life, w.now)
	x.p, e2 = newPaper(x.id, w.c, x.d[1], x.life, w.now)
	if e != e2 || (x.b == nil) != (e != api.OK) {
		w.t.Fatalf("New: %v, want %v", e, e2)
	}
}

func (w *twins) crash(x *twin) {
	w.t.Helper()
	if x.b == nil {
		w.begin(x)
		return
	}
	keep := l(w.Intn(200), w.Intn(200), w.Intn(200))
	for _, d := range x.d {
		d.Crash(keep)
	}
	x.b, x.p = nil, nil
	if w.Intn(2) == 0 {
		w.begin(x)
	}
}

// hold asks that the two told the same, and are the same.
func (w *twins) hold(x *twin, got, want []api.Msg) {
	w.t.Helper()
	if !same(got, want) {
		w.t.Fatalf("%s, at %d:\nthe broker %d told\n%swant\n%s", w.what, w.now, x.id, show(got), show(want))
	}
	for _, m := range got {
		w.told[fmt.Sprint(m.Kind, " ", int(m.Err))]++
		if m.To <= 7 {
			w.net = append(w.net, m)
		}
	}
	w.holdState(x)
}

// holdState asks that the two are the same in all that they tell of themselves.
func (w *twins) holdState(x *twin) {
	w.t.Helper()
	b, p := x.b, x.p
	bad := ""
	if b.Controls() != p.n.Leads() || !slices.Equal(b.Leads(), p.leads()) {
		bad = fmt.Sprint("Controls: ", b.Controls(), ", Leads: ", b.Leads(), ", want ", p.n.Leads(), ", ", p.leads())
	}
	if b.Image().Applied() != p.im.Applied() || b.Image().Keep() != p.im.Keep() {
		bad = fmt.Sprintf("the image is %q, want %q", b.Image().Keep(), p.im.Keep())
	}
	for part := -1; part <= 18; part++ {
		var got, want [4]int
		if log := b.Log(part); log != nil {
			got = [4]int{log.Start(), log.Next(), log.Safe(), log.Saved()}
		}
		if x := p.stores[part]; x != nil {
			want = [4]int{x.Log().Start(), x.Log().Next(), x.Log().Safe(), x.Log().Saved()}
		}
		if got != want || b.High(part) != p.high(part) || (b.Log(part) == nil) != (p.stores[part] == nil) {
			bad = fmt.Sprint("of ", part, " it has ", got, ", High ", b.High(part), ", want ", want, ", ", p.high(part))
		}
	}
	if bad != "" {
		w.t.Fatalf("%s, at %d: the broker %d: %s", w.what, w.now, x.id, bad)
	}
}

func (w *twins) tick(x *twin) {
	w.t.Helper()
	draw := w.Intn(20) - 5
	w.what = fmt.Sprint("Tick ", draw)
	w.hold(x, x.b.Tick(w.now, draw), x.p.tick(w.now, draw))
}

func (w *twins) tell(m api.Msg) {
	w.t.Helper()
	if !slices.Contains(w.c.Brokers, m.To) || m.From <= 7 && w.areApart(m.From, m.To) {
		return
	}
	x := w.all[m.To-1]
	if x.b == nil {
		return
	}
	w.what = "Step " + show([]api.Msg{m})
	w.hold(x, x.b.Step(w.now, m), x.p.step(w.now, m))
}

func (w *twins) areApart(a, b int) bool { return w.apart == [2]int{a, b} || w.apart == [2]int{b, a} }

// deliver has one message come, mostly the first one; some come twice, or never.
func (w *twins) deliver() {
	w.t.Helper()
	if len(w.net) == 0 {
		return
	}
	i := 0
	if w.Intn(4) == 0 {
		i = w.Intn(len(w.net))
	}
	m := w.net[i]
	if n := w.Intn(100); n > 0 {
		w.net = slices.Delete(w.net, i, i+1)
		if n == 1 {
			return
		}
	}
	w.tell(m)
}

// stuff fills a broker's disks, or makes room.
func (w *twins) stuff(x *twin) {
	leaves, fills := w.of(0, 5, 100), w.Intn(3) == 0
	for _, d := range x.d {
		d.Remove("stuff")
		if n := d.Free() - leaves; fills && n > 0 {
			d.Append("stuff", string(make([]byte, n)))
		}
	}
}

// ask has a client ask, mostly whom it should.
func (w *twins) ask() {
	w.t.Helper()
	m := w.request(len(w.all))
	m.To = 1 + w.Intn(len(w.all))
	if w.Intn(4) > 0 {
		for _, x := range w.all {
			if x.b == nil {
				continue
			}
			isAdmin := m.Kind == api.AdminAsk
			if isAdmin && x.b.Controls() || !isAdmin && slices.Contains(x.b.Leads(), max(m.Part, 1)) {
				m.To = x.id
			}
		}
	}
	w.tell(m)
}

func (w *twins) any() *twin { return w.all[w.Intn(len(w.all))] }

// step does one thing to both.
func (w *twins) step() {
	w.t.Helper()
	switch n := w.Intn(400); {
	case n < 40:
		w.now++
		for _, x := range w.all {
			if x.b != nil {
				w.tick(x)
			}
		}
	case n < 44:
		if x := w.any(); x.b != nil {
			w.tick(x)
		}
	case n < 320:
		w.deliver()
	case n < 390:
		w.ask()
	case n < 391:
		w.crash(w.any())
	case n < 393:
		w.stuff(w.any())
	case n < 394:
		w.apart = [2]int{w.Intn(6), w.Intn(6)}
	case n < 396:
		w.apart = [2]int{}
	default:
		if x := w.any(); x.b == nil {
			w.begin(x)
		}
	}
	if len(w.net) > 60 {
		w.net = w.net[20:]
	}
}

// areSame tells whether two disks have the same.
func areSame(a, b *disk.Disk) bool {
	names := a.Names()
	for _, name := range names {
		x, _ := a.Read(name)
		y, e := b.Read(name)
		if x != y || e != api.OK || a.Synced(name) != b.Synced(name) {
			return false
		}
	}
	return slices.Equal(names, b.Names())
}

func (w *twins) holdDisks() {
	w.t.Helper()
	for _, x := range w.all {
		if !areSame(x.d[0], x.d[1]) {
			w.t.Fatalf("at %d: the disk of %d has\n%s\nwant\n%s", w.now, x.id, picture(x.d[0]), picture(x.d[1]))
		}
	}
}

// wantTold asks that enough was told of each kind of message with each of some errors.
func wantTold(t *testing.T, told map[string]int, least int, kind int, es ...api.Errno) {
	t.Helper()
	for _, e := range es {
		if n := told[fmt.Sprint(kind, " ", int(e))]; n < least {
			t.Errorf("%d with the error %d was told %d times", kind, int(e), n)
		}
	}
}

// E1 to E7: brokers and their clients, whatever happens to them and to what is on its way.
func TestWalks(t *testing.T) {
	told := map[string]int{}
	for seed := range 40 {
		w := begun(t, chance{rand.New(rand.NewSource(int64(seed)))}, told)
		for i := range 5000 {
			w.step()
			if i%50 == 0 {
				w.holdDisks()
			}
		}
	}
	for _, kind := range l(api.VoteAsk, api.AppendAsk, api.SnapAsk, api.FetchAsk, api.BeatAsk, api.AlterAsk) {
		wantTold(t, told, 20, kind, api.OK)
	}
	wantTold(t, told, 20, api.FetchTell, api.OK, api.ErrRange, api.ErrOrder, api.ErrFenced, api.ErrLeader)
	wantTold(t, told, 20, api.BeatTell, api.OK, api.ErrLeader)
	wantTold(t, told, 20, api.AlterTell, api.OK, api.ErrLeader, api.ErrFull)
	wantTold(t, told, 20, api.AdminTell, api.OK, api.ErrArg, api.ErrMany, api.ErrFull, api.ErrNone, api.ErrTwice, api.ErrLeader, api.ErrState)
	wantTold(t, told, 20, api.ProduceTell, api.OK, api.ErrArg, api.ErrFull, api.ErrOrder, api.ErrDuplicate, api.ErrFenced, api.ErrNewer, api.ErrLeader, api.ErrInsync)
	wantTold(t, told, 20, api.ReadTell, api.OK, api.ErrArg, api.ErrRange, api.ErrLeader)
	wantTold(t, told, 20, api.InfoTell, api.OK, api.ErrNone)
	wantTold(t, told, 20, api.GroupTell, api.OK, api.ErrArg, api.ErrFull, api.ErrMember, api.ErrGen, api.ErrState, api.ErrCoord)
	wantTold(t, told, 20, api.DeleteTell, api.OK, api.ErrArg, api.ErrFull, api.ErrRange, api.ErrLeader)
}
