package replica_test

import (
	"math/rand"
	"slices"
	"strconv"
	"testing"

	"logboom/api"
	"logboom/disk"
	"logboom/meta"
	"logboom/replica"
	"logboom/store"
	"logboom/wire"
)

// node is a broker: its disk, its life, what it has learnt of the metadata, its side of the partition.
type node struct {
	id, life, made int
	up             bool
	d              *disk.Disk
	image          *meta.Image
	s              *store.Store
	leads          *replica.Leader
	follows        *replica.Follower
	high           int         // the greatest High that the leader told
	turns          map[int]int // of the leader's turns that are not turned: the epoch of the latest leader that there was at its time
}

// ensemble is some brokers with one partition. What is agreed on is agreed on at once, but brokers learn of it late; messages are lost, doubled, late.
type ensemble struct {
	chance
	t         *testing.T
	nodes     []*node
	records   []api.Meta
	image     *meta.Image // of all records
	net       []api.Msg
	now, lag  int
	latest    int               // the epoch of the latest leader that was made
	committed map[int]api.Batch // by Base: what a leader told as below High
	written   map[place]string  // what was ever appended, and where
	pids      int               // how many producers there were
	next      map[int]int       // each producer's next sequence, as the last good answer has it
	moved     int               // how many changes the metadata has seen
}

// place is an offset and an epoch: on all logs, at all times, one batch at most may stand there.
type place struct{ offset, epoch int }

func gathered(t *testing.T, c chance) *ensemble {
	t.Helper()
	w := &ensemble{chance: c, t: t, lag: 20 + 40*c.Intn(4), image: meta.New(), committed: map[int]api.Batch{}, written: map[place]string{}, next: map[int]int{}}
	for id := 1; id <= 5; id++ {
		w.nodes = append(w.nodes, &node{id: id, life: 1, up: true, d: made(t, 1000000), image: meta.New()})
		w.agree(api.Meta{Kind: meta.Register, A: id, B: 1})
		w.agree(api.Meta{Kind: meta.Unfence, A: id, B: 1})
	}
	w.agree(api.Meta{Kind: meta.Topic, Name: "t", A: 1, B: 3, C: 1})
	for _, n := range w.nodes {
		w.learn(n, len(w.records))
	}
	return w
}

func (w *ensemble) agree(r api.Meta) {
	w.records = append(w.records, r)
	if _, e := w.image.Apply(r); e == api.OK {
		w.moved++
	}
}

func (w *ensemble) part() api.Part {
	p, _ := w.image.Part(1)
	return p
}

// learn has a broker apply some more records, and be what they make of it.
func (w *ensemble) learn(n *node, most int) {
	w.t.Helper()
	from := n.image.Applied()
	for _, r := range w.records[from:min(from+most, len(w.records))] {
		n.image.Apply(r)
	}
	p, ok := n.image.Part(1)
	life, _ := n.image.Life(n.id)
	switch {
	case !ok || life != n.life || !slices.Contains(p.Replicas, n.id) || p.Leader == n.id && !slices.Contains(n.image.Up(), n.id):
		n.leads, n.follows = nil, nil
	case p.Leader == n.id:
		w.lead(n, p)
	default:
		w.follow(n, p)
	}
}

// learnSome has it apply few records, but of many that it lacks more.
func (w *ensemble) learnSome(n *node) {
	w.t.Helper()
	lacks := len(w.records) - n.image.Applied()
	w.learn(n, max(1+w.Intn(6), lacks-w.Intn(10)))
}

func (w *ensemble) lead(n *node, p api.Part) {
	w.t.Helper()
	n.follows = nil
	if n.leads != nil && n.leads.Part().Epoch == p.Epoch {
		must(w.t, n.leads.Learn(p, w.now))
		return
	}
	var e api.Errno
	n.leads, e = replica.Lead(n.id, n.opened(w.t), p, w.now, w.lag)
	must(w.t, e)
	n.high, n.turns = 0, map[int]int{}
	w.latest = max(w.latest, p.Epoch)
}

func (w *ensemble) follow(n *node, p api.Part) {
	w.t.Helper()
	n.leads = nil
	if n.follows != nil {
		if q := n.follows.Part(); q.Epoch == p.Epoch && q.Leader == p.Leader {
			return
		}
	}
	var e api.Errno
	n.made++
	n.follows, e = replica.Follow(n.id, n.opened(w.t), p, n.life, n.made)
	must(w.t, e)
}

func (n *node) opened(t *testing.T) *store.Store {
	t.Helper()
	if n.s == nil {
		n.s = opened(t, n.d)
	}
	return n.s
}

// crash loses what is not safe; begin begins the broker's next life.
func (w *ensemble) crash(n *node) {
	n.d.Crash(l(w.Intn(1000), w.Intn(1000)))
	n.up, n.s, n.leads, n.follows, n.image = false, nil, nil, nil, meta.New()
}

func (w *ensemble) begin(n *node) {
	if !n.up {
		n.up, n.made = true, 0
		n.life++
	}
}

// beat is what the controller makes of a broker's beat.
func (w *ensemble) beat(n *node) {
	life, _ := w.image.Life(n.id)
	switch {
	case life < n.life:
		w.agree(api.Meta{Kind: meta.Register, A: n.id, B: n.life})
	case !slices.Contains(w.image.Up(), n.id):
		w.agree(api.Meta{Kind: meta.Unfence, A: n.id, B: n.life})
	}
}

// send sends, of a producer, mostly what is next of it, or what it sent ahead.
func (w *ensemble) send(n *node) {
	w.t.Helper()
	if w.pids == 0 || w.Intn(30) == 0 {
		w.pids++
	}
	pid := 1 + w.Intn(w.pids)
	b := of(0, 1+w.Intn(2))
	b.Pid, b.Seq = pid, w.next[pid]
	b.Records[0].Value = "by " + strconv.Itoa(len(w.written))
	if w.Intn(5) == 0 {
		b.Seq = max(0, b.Seq-1)
	}
	end := n.s.Log().Next()
	at, e := n.leads.Produce(w.now, b)
	if e == api.OK && b.Seq == w.next[pid] && w.Intn(4) > 0 {
		w.next[pid] += len(b.Records)
	}
	if e != api.OK || n.s.Log().Next() == end {
		return
	}
	list, e := n.s.Log().Read(at, 1)
	must(w.t, e)
	bytes, _ := wire.Batch(list[0])
	x := place{at, list[0].Epoch}
	if w.written[x] != "" {
		w.t.Fatalf("at %d a second batch is written in the epoch %d", x.offset, x.epoch)
	}
	w.written[x] = bytes
}

// deliver brings a message where it is to.
func (w *ensemble) deliver(m api.Msg) {
	w.t.Helper()
	if m.Kind == api.AlterAsk {
		w.agree(api.Meta{Kind: meta.Alter, A: m.Part, B: m.From, C: m.Epoch, D: m.Offset, List: m.Ints})
		return
	}
	n := w.nodes[m.To-1]
	switch {
	case !n.up:
	case m.Kind == api.FetchAsk && n.leads != nil:
		w.net = append(w.net, n.leads.Fetch(w.now, m))
	case m.Kind == api.FetchTell && n.follows != nil:
		n.follows.Take(m)
	}
}

// any takes a message off the net; sometimes it stays there, too.
func (w *ensemble) any() (api.Msg, bool) {
	if len(w.net) == 0 {
		return api.Msg{}, false
	}
	i := w.Intn(len(w.net))
	if w.Intn(2) == 0 {
		i = len(w.net) - 1
	}
	m := w.net[i]
	if w.Intn(8) > 0 {
		w.net = slices.Delete(w.net, i, i+1)
	}
	return m, true
}

func (w *ensemble) ask(n *node) {
	if m := n.follows.Ask(); m.To != 0 {
		w.net = append(w.net, m)
	}
}

func (w *ensemble) wish(n *node) {
	if m, ok := n.leads.Wish(w.now); ok {
		w.net = append(w.net, m)
	}
}

// one is any broker of which it is so; nil: there is none.
func (w *ensemble) one(isSo func(*node) bool) *node {
	for _, i := range w.Perm(len(w.nodes)) {
		if isSo(w.nodes[i]) {
			return w.nodes[i]
		}
	}
	return nil
}

func (n *node) isUp() bool { return n.up }

func (n *node) isDown() bool { return !n.up }

func (n *node) isLeading() bool { return n.leads != nil }

func (n *node) isFollowing() bool { return n.follows != nil }

func (w *ensemble) step() {
	w.t.Helper()
	if w.Intn(3) == 0 {
		w.now++
	}
	of, does := (*node).isUp, w.stir
	switch k := w.Intn(100); {
	case k < 35:
		if m, ok := w.any(); ok && w.Intn(20) > 0 {
			w.deliver(m)
		}
		return
	case k < 58:
		of, does = (*node).isFollowing, w.ask
	case k < 65:
		of, does = (*node).isLeading, w.send
	case k < 75:
		does = w.learnSome
	case k < 80:
		of, does = (*node).isLeading, w.wish
	case k < 90:
		does = w.beat
	case k < 93:
		of, does = (*node).isDown, w.begin
	}
	if n := w.one(of); n != nil {
		does(n)
	}
}

// stir does to a broker that is up what happens seldom.
func (w *ensemble) stir(n *node) {
	w.t.Helper()
	switch w.Intn(20) {
	case 0, 1:
		w.crash(n)
	case 2:
		w.agree(api.Meta{Kind: meta.Fence, A: n.id, B: n.life})
	case 3, 4, 5:
		if n := w.one((*node).isDown); n != nil {
			life, _ := w.image.Life(n.id)
			w.agree(api.Meta{Kind: meta.Fence, A: n.id, B: life})
		}
	case 6:
		targets := w.Perm(5)[:2+w.Intn(2)]
		for i := range targets {
			targets[i]++
		}
		w.agree(api.Meta{Kind: meta.Move, A: 1, List: targets})
	case 7, 8:
		w.agree(api.Meta{Kind: meta.Done, A: 1})
	case 9:
		w.agree(api.Meta{Kind: []int{meta.Stay, meta.Prefer}[w.Intn(2)], A: 1})
	case 10, 11, 12:
		if n.leads != nil {
			w.shorten(n)
		}
	case 13, 14, 15:
		if n.leads != nil {
			n.s.Log().Save(n.leads.High())
		} else if n.follows != nil {
			n.s.Log().Save(n.follows.High())
		}
	default:
		if n := w.one((*node).isLeading); n != nil {
			n.turns[n.leads.Turn()] = w.latest
		}
	}
}

// shorten deletes up to a place that is committed.
func (w *ensemble) shorten(n *node) {
	w.t.Helper()
	list, e := n.leads.Read(n.s.Log().Start(), 10000)
	must(w.t, e)
	if len(list) > 0 {
		must(w.t, n.leads.Delete(list[w.Intn(len(list))].Base))
	}
}

// safe is the batches of a broker's log that a crash leaves, and where the log begins.
func (w *ensemble) safe(n *node) ([]api.Batch, int) {
	w.t.Helper()
	s := n.s
	if s == nil {
		s = opened(w.t, n.d.Clone())
	}
	limit := s.Log().Safe()
	return slices.DeleteFunc(s.Log().All(), func(b api.Batch) bool { return end(b) > limit }), s.Log().Start()
}

// wantHas asks that a broker has all that is committed, up to an offset, safe, but for what is deleted there.
func (w *ensemble) wantHas(what string, id, high int) {
	w.t.Helper()
	list, start := w.safe(w.nodes[id-1])
	has := map[int]api.Batch{}
	for _, b := range list {
		has[b.Base] = b
	}
	for base, b := range w.committed {
		if base < start || end(b) > high {
			continue
		}
		if got := has[base]; got.Epoch != b.Epoch || len(got.Records) != len(b.Records) || got.Records[0] != b.Records[0] {
			w.t.Fatalf("%s: %d has not what is committed at %d:\n%v\nbut\n%v\n%v", what, id, base, b, got, w.part())
		}
	}
}

// check asks for all that the chapter says of what is committed.
func (w *ensemble) check(what string, all bool) {
	w.t.Helper()
	news := all
	for _, n := range w.nodes {
		if n.leads == nil {
			continue
		}
		high := n.leads.High()
		if high < n.high {
			w.t.Fatalf("%s: High of %d was %d, is %d", what, n.id, n.high, high)
		}
		if high > n.high || all {
			w.tells(what, n)
			for _, id := range n.leads.Part().Isr {
				w.wantHas(what+": in sync with "+strconv.Itoa(n.id), id, high)
			}
			n.high, news = high, true
		}
		w.checkTurns(what, n)
	}
	if news {
		for _, id := range w.part().Isr {
			w.wantHas(what+": in sync", id, api.MaxOffset)
		}
	}
}

// tells notes what a leader tells as committed: it is what others told.
func (w *ensemble) tells(what string, n *node) {
	w.t.Helper()
	list, e := n.leads.Read(n.s.Log().Start(), 1000000)
	must(w.t, e)
	for _, b := range list {
		was, ok := w.committed[b.Base]
		if ok && (was.Epoch != b.Epoch || was.Records[0] != b.Records[0]) {
			w.t.Fatalf("%s: at %d was committed %v, now %d tells %v", what, b.Base, was, n.id, b)
		}
		w.committed[b.Base] = b
	}
}

// checkTurns asks that whoever leads when a turn is turned was the latest leader when it began.
func (w *ensemble) checkTurns(what string, n *node) {
	w.t.Helper()
	for turn, latest := range n.turns {
		if !n.leads.Turned(turn) {
			continue
		}
		if epoch := n.leads.Part().Epoch; latest > epoch {
			w.t.Fatalf("%s: the turn %d of %d, of the epoch %d, is turned, and there was a leader of the epoch %d", what, turn, n.id, epoch, latest)
		}
		delete(n.turns, turn)
	}
}

// calm has all brokers be up, and nothing be lost, for so many rounds.
func (w *ensemble) calm(rounds int) {
	w.t.Helper()
	for range rounds {
		w.now++
		for _, n := range w.nodes {
			w.begin(n)
			w.beat(n)
			w.learn(n, len(w.records))
			if n.isFollowing() {
				w.ask(n)
			}
			if n.isLeading() {
				w.wish(n)
			}
		}
		w.agree(api.Meta{Kind: meta.Done, A: 1})
		for len(w.net) > 0 {
			m := w.net[0]
			w.net = w.net[1:]
			w.deliver(m)
		}
		w.check("calm", true)
	}
}

// wantOne asks that all replicas are in sync, with one log, all of it committed.
func (w *ensemble) wantOne(what string) {
	w.t.Helper()
	p := w.part()
	if p.Leader == 0 || len(p.Isr) != len(p.Replicas) || len(p.Adding)+len(p.Removing) > 0 {
		w.t.Fatalf("%s: the state is %v", what, p)
	}
	x := w.nodes[p.Leader-1]
	end := x.s.Log().Next()
	wantInt(w.t, what+": High", x.leads.High(), end)
	wantInt(w.t, what+": Deleted", x.leads.Deleted(), x.s.Log().Start())
	for _, id := range p.Replicas {
		n := w.nodes[id-1]
		wantSame(w.t, what, x.s, n.s)
		if id != p.Leader {
			wantInt(w.t, what+": High of a follower", n.follows.High(), end)
		}
	}
}

// wantOnce asks that what lies in the logs is what was written, and that nothing that is committed stands there twice.
func (w *ensemble) wantOnce(what string) {
	w.t.Helper()
	for _, n := range w.nodes {
		list, _ := w.safe(n)
		for _, b := range list {
			if bytes, _ := wire.Batch(b); w.written[place{b.Base, b.Epoch}] != bytes {
				w.t.Fatalf("%s: %d has at %d what was not written in the epoch %d", what, n.id, b.Base, b.Epoch)
			}
		}
	}
	type one struct{ pid, seq int }
	lies := map[one]int{}
	for base, b := range w.committed {
		for i := range b.Records {
			x := one{b.Pid, b.Seq + i}
			if at, ok := lies[x]; ok {
				w.t.Fatalf("%s: %v stands at %d and at %d", what, x, at, base+i)
			}
			lies[x] = base + i
		}
	}
}

// F9: committed stays, High does not go down, a follower that asks and takes has the leader's batches, and is wished for.
func TestCommittedStays(t *testing.T) {
	batches, changes, epochs := 0, 0, 0
	for seed := range 100 {
		w := gathered(t, chance{rand.New(rand.NewSource(int64(seed)))})
		for i := range 3000 {
			w.step()
			w.check("seed "+strconv.Itoa(seed)+", step "+strconv.Itoa(i), i%50 == 0)
			if len(w.net) > 40 {
				w.net = w.net[len(w.net)-20:]
			}
		}
		what := "seed " + strconv.Itoa(seed) + ", at the end"
		w.calm(60)
		w.wantOne(what)
		w.wantOnce(what)
		batches, changes, epochs = batches+len(w.committed), changes+w.moved, epochs+w.part().Epoch
	}
	if batches < 3000 || changes < 5000 || epochs < 700 {
		t.Errorf("only %d batches, %d changes, %d epochs", batches, changes, epochs)
	}
}
