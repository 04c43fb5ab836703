package broker_test

import (
	"fmt"
	"math/rand"
	"slices"
	"testing"

	"logboom/api"
	"logboom/broker"
	"logboom/disk"
	"logboom/meta"
)

// server is a broker that may be down.
type server struct {
	id, life int
	d        *disk.Disk
	b        *broker.Broker
}

// sender is a client that sends to one partition, each batch again and again until it is acknowledged.
type sender struct {
	id, part, seq, waits, sent int
	batch                      api.Batch // empty: there is none on its way
}

// spot is where a record lies, and in which epoch it was written.
type spot struct{ part, offset, epoch int }

// world is a cluster: its brokers, its clients, what is on its way between them, and what must stay so.
type world struct {
	chance
	t         *testing.T
	c         broker.Config
	servers   []*server
	senders   []*sender
	net       []api.Msg
	now       int
	ids       int
	isCalm    bool
	apart     int                   // one whom nobody hears, and who hears nobody
	images    []string              // what the first that had applied so many made of it
	written   map[spot]string       // what was ever seen in a log
	committed map[[2]int]string     // by partition and offset: what was ever seen below a high watermark
	where     map[string][2]int     // by the record: where it is committed
	acked     map[[2]int]string     // what was acknowledged there
	reads     map[int]int           // by the request: how far was deleted when it was asked
	floors    [api.MaxParts + 1]int // how far was deleted, and acknowledged
	asked     [api.MaxParts + 1]int // how far was asked to be deleted
	highs     map[[3]int]int        // by broker, partition, epoch: the leader's greatest high watermark
	told      map[string]int
}

func newWorld(t *testing.T, c chance, told map[string]int) *world {
	t.Helper()
	n := c.of(1, 3, 3, 3, 5)
	w := &world{chance: c, t: t, told: told, written: map[spot]string{}, committed: map[[2]int]string{}, where: map[string][2]int{},
		acked: map[[2]int]string{}, reads: map[int]int{}, highs: map[[3]int]int{}, images: []string{meta.New().Keep()}}
	var ids []int
	for id := 1; id <= n; id++ {
		ids = append(ids, id)
		w.servers = append(w.servers, &server{id: id, d: newDisk(t, 4000000)})
	}
	w.c = broker.Config{Brokers: ids, Wait: 12, Beat: c.of(2, 5), Session: c.of(15, 40), Lag: c.of(10, 30), Segment: c.of(256, 1000)}
	for _, s := range w.servers {
		w.begin(s)
	}
	return w
}

func (w *world) begin(s *server) {
	w.t.Helper()
	s.life++
	var e api.Errno
	s.b, e = broker.New(s.id, w.c, s.d, s.life, w.now)
	must(w.t, e)
}

// send has messages be on their way; those of clients are answers.
func (w *world) send(list []api.Msg) {
	for _, m := range list {
		if m.To > 100 {
			w.answered(m)
		} else {
			w.net = append(w.net, m)
		}
	}
}

// ask has a client ask a broker.
func (w *world) ask(m api.Msg) int {
	w.ids++
	m.Id, m.To = w.ids, 1+w.Intn(len(w.servers))
	// Mostly they know whom to ask.
	for _, s := range w.servers {
		if s.b != nil && w.Intn(8) > 0 && (m.Kind == api.AdminAsk && s.b.Controls() || m.Kind != api.AdminAsk && slices.Contains(s.b.Leads(), m.Part)) {
			m.To = s.id
		}
	}
	w.net = append(w.net, m)
	return w.ids
}

// answered is what a client makes of an answer; answers are lost, too.
func (w *world) answered(m api.Msg) {
	w.t.Helper()
	if !w.isCalm && w.Intn(10) == 0 {
		return
	}
	w.told[fmt.Sprint(m.Kind, " ", int(m.Err))]++
	switch {
	case m.Kind == api.ProduceTell:
		w.produced(m)
	case m.Kind == api.ReadTell && m.Err == api.OK:
		for _, b := range m.Batches {
			if b.Base < w.reads[m.Id] {
				w.t.Fatalf("at %d a read of %d tells what lies ahead of %d, which was deleted", b.Base, m.Part, w.reads[m.Id])
			}
			w.seen(m.Part, b)
		}
	case m.Kind == api.DeleteTell && m.Err == api.OK:
		w.floors[m.Part] = max(w.floors[m.Part], m.Offset)
	}
}

// produced is the answer to a sender, if it still waits for it.
func (w *world) produced(m api.Msg) {
	w.t.Helper()
	s := w.senders[m.To-101]
	if m.Id != s.waits {
		return
	}
	s.waits = 0
	switch m.Err {
	case api.OK:
		for i, r := range s.batch.Records {
			w.acked[[2]int{s.part, m.Offset + i}] = r.Value
		}
		s.seq += len(s.batch.Records)
		s.batch = api.Batch{}
	case api.ErrDuplicate:
		// With ErrOrder it may be refused: by one that does not know yet that it was put off.
		w.t.Fatalf("a batch of %d that was never acknowledged is told to be long past", s.id)
	}
}

// write has a sender send what it has, or something new.
func (w *world) write(s *sender) {
	if len(s.batch.Records) == 0 {
		s.sent++
		s.batch = api.Batch{Pid: s.id - 100, Seq: s.seq}
		for i := range 1 + w.Intn(3) {
			s.batch.Records = append(s.batch.Records, api.Record{Value: fmt.Sprint(s.id, " ", s.sent, " ", i)})
		}
	}
	s.waits = w.ask(api.Msg{Kind: api.ProduceAsk, From: s.id, Part: s.part, Batches: []api.Batch{s.batch}})
}

// client does one thing that clients do.
func (w *world) client() {
	part := 2 + w.Intn(2)
	switch n := w.Intn(40); {
	case n < 20:
		w.write(w.senders[w.Intn(len(w.senders))])
	case n < 32:
		m := api.Msg{Kind: api.ReadAsk, From: 201, Part: part, Offset: w.floors[part] + w.Intn(20)}
		floor := w.floors[part]
		w.reads[w.ask(m)] = floor
	case n < 34:
		if at := w.place(part); at > w.floors[part] {
			w.asked[part] = max(w.asked[part], at)
			w.ask(api.Msg{Kind: api.DeleteAsk, From: 202, Part: part, Offset: at})
		}
	case n < 37:
		w.ask(api.Msg{Kind: api.GroupAsk, From: 203, Part: 1, Index: w.of(1, 1, 3, 4), Name: "g", Pid: w.of(0, 1, 2), Seq: w.Intn(9), Ints: l(2, 3)})
	default:
		w.ask(api.Msg{Kind: api.AdminAsk, From: 204, Index: w.of(meta.Move, meta.Move, meta.Stay, meta.Prefer, meta.Pid), High: 1 + w.Intn(3), Ints: w.targets()})
	}
}

// targets are some of the brokers, mostly more than one.
func (w *world) targets() []int {
	list := w.Perm(len(w.servers))[:1+w.Intn(len(w.servers))]
	for i := range list {
		list[i]++
	}
	return list
}

// place is where a batch begins that is committed, as some leader has it.
func (w *world) place(part int) int {
	for _, s := range w.servers {
		if s.b == nil || !slices.Contains(s.b.Leads(), part) {
			continue
		}
		if list, e := s.b.Log(part).Read(s.b.Log(part).Start(), 400); e == api.OK && len(list) > 0 {
			if b := list[w.Intn(len(list))]; b.Base <= s.b.High(part) {
				return b.Base
			}
		}
	}
	return 0
}

// seen asks that what is committed is what was committed there.
func (w *world) seen(part int, b api.Batch) {
	w.t.Helper()
	for i, r := range b.Records {
		x := [2]int{part, b.Base + i}
		if s, ok := w.committed[x]; ok && s != r.Value {
			w.t.Fatalf("at %d of %d stands %q, and stood %q", x[1], part, r.Value, s)
		}
		w.committed[x] = r.Value
		if part == 1 {
			continue
		}
		if y, ok := w.where[r.Value]; ok && y != x {
			w.t.Fatalf("%q stands at %v and at %v", r.Value, x, y)
		}
		w.where[r.Value] = x
	}
}

// look asks of a broker's log what must be so of all logs at all times.
func (w *world) look(s *server, part int) {
	w.t.Helper()
	log := s.b.Log(part)
	if log == nil {
		return
	}
	all := map[string]bool{}
	high := s.b.High(part)
	for _, b := range log.All() {
		for i, r := range b.Records {
			x := spot{part, b.Base + i, b.Epoch}
			if v, ok := w.written[x]; ok && v != r.Value {
				w.t.Fatalf("at %d of %d stands %q of the epoch %d, and elsewhere %q", x.offset, part, r.Value, x.epoch, v)
			}
			w.written[x] = r.Value
			if part > 1 && all[r.Value] {
				w.t.Fatalf("%q stands twice in the log of %d", r.Value, s.id)
			}
			all[r.Value] = true
		}
		if b.Base+len(b.Records) <= high {
			w.seen(part, b)
		}
	}
	if p, ok := s.b.Image().Part(part); ok && p.Leader == s.id && slices.Contains(s.b.Leads(), part) {
		x := [3]int{s.id*1000 + s.life, part, p.Epoch}
		if high < w.highs[x] {
			w.t.Fatalf("the high watermark of %d goes down", part)
		}
		w.highs[x] = high
	}
}

// lookAtAll asks of all brokers what must be so at all times.
func (w *world) lookAtAll() {
	w.t.Helper()
	for _, s := range w.servers {
		if s.b == nil {
			continue
		}
		for part := 1; part <= 3; part++ {
			w.look(s, part)
		}
	}
}

// holdImage asks that what a broker has applied is a beginning of what all have.
func (w *world) holdImage(s *server) {
	w.t.Helper()
	n, text := s.b.Image().Applied(), s.b.Image().Keep()
	for len(w.images) <= n {
		w.images = append(w.images, "")
	}
	if w.images[n] == "" {
		w.images[n] = text
	}
	if w.images[n] != text {
		w.t.Fatalf("%d has applied %d records, and has another image of them", s.id, n)
	}
}

func (w *world) tick() {
	w.t.Helper()
	w.now++
	for _, s := range w.servers {
		if s.b != nil {
			w.send(s.b.Tick(w.now, w.Intn(1000)))
			w.holdImage(s)
		}
	}
}

// deliver has the i-th message come, if it is not lost.
func (w *world) deliver(i int) {
	w.t.Helper()
	m := w.net[i]
	switch {
	case w.isCalm:
		w.net = slices.Delete(w.net, i, i+1)
	case w.Intn(30) == 0: // it comes twice
	default:
		w.net = slices.Delete(w.net, i, i+1)
		if w.Intn(30) == 0 || m.From != m.To && (w.apart == m.From || w.apart == m.To) {
			return
		}
	}
	if s := w.servers[m.To-1]; s.b != nil {
		w.send(s.b.Step(w.now, m))
		w.holdImage(s)
	}
}

// happen has one thing happen.
func (w *world) happen() {
	w.t.Helper()
	switch n := w.Intn(1000); {
	case n < 60:
		w.tick()
	case n < 850:
		if k := len(w.net); k > 0 {
			w.deliver(w.of(0, 0, 0, 0, w.Intn(k)))
		}
	case n < 980:
		if len(w.net) < 60 {
			w.client()
		}
	case n < 983:
		if s := w.servers[w.Intn(len(w.servers))]; s.b != nil {
			s.d.Crash(l(w.Intn(300), w.Intn(300), w.Intn(300), w.Intn(300)))
			s.b = nil
		}
	case n < 985:
		w.apart = w.of(0, 0, 1+w.Intn(len(w.servers)))
	case n < 998:
		if s := w.servers[w.Intn(len(w.servers))]; s.b == nil {
			w.begin(s)
		}
	default:
		w.lookAtAll()
	}
	// What is on its way does not grow without end.
	if n := len(w.net); n > 150 {
		w.net = w.net[n-100:]
	}
}

// calm has all be well for some time: nothing is lost, all are up.
func (w *world) calm() {
	w.t.Helper()
	w.isCalm, w.apart = true, 0
	for _, s := range w.servers {
		if s.b == nil {
			w.begin(s)
		}
	}
	for i := range 400 {
		w.tick()
		for k := 0; len(w.net) > 0; k++ {
			if k == 10000 {
				w.t.Fatal("messages without end")
			}
			w.deliver(0)
		}
		for _, s := range w.senders {
			// What was lost is sent again.
			if isOpen := len(s.batch.Records) > 0; isOpen && (s.waits == 0 || i%20 == 0) || !isOpen && i < 300 && i%50 == 0 {
				w.write(s)
			}
		}
	}
}

// first are the topics that there are from the beginning on.
func (w *world) first() {
	w.t.Helper()
	w.calm()
	n := min(3, len(w.servers))
	for _, m := range []api.Msg{topic("offsets", 1, n), topic("t", 2, n)} {
		m.From = 204
		// It may be asked of one who does not control.
		for tries := 0; len(w.servers[0].b.Image().Find(m.Name)) == 0; tries++ {
			if tries == 10 {
				w.t.Fatal("there is no topic", m.Name)
			}
			w.ask(m)
			w.calm()
		}
	}
	for i := range 4 {
		w.senders = append(w.senders, &sender{id: 101 + i, part: 2 + i%2})
	}
	w.isCalm = false
}

// holdCalm asks what must be so behind a time in which all was well.
func (w *world) holdCalm() {
	w.t.Helper()
	w.lookAtAll()
	for _, s := range w.senders {
		if len(s.batch.Records) > 0 {
			w.t.Fatalf("what %d sends to %d is not acknowledged", s.id, s.part)
		}
	}
	im := w.servers[0].b.Image()
	for _, s := range w.servers {
		if s.b.Image().Keep() != im.Keep() {
			w.t.Fatal("images differ")
		}
	}
	for _, p := range im.Parts() {
		if p.Leader == 0 || len(p.Isr) != len(p.Replicas) || len(p.Adding)+len(p.Removing) > 0 {
			w.t.Fatalf("%+v", p)
		}
		w.holdPart(p)
	}
	for x, v := range w.acked {
		if s, ok := w.committed[x]; !ok && x[1] >= w.asked[x[0]] || ok && s != v {
			w.t.Fatalf("what was acknowledged at %d of %d is %q, not %q", x[1], x[0], s, v)
		}
	}
}

// holdPart asks that all replicas of a partition have one log, all of it committed, with all that was acknowledged.
func (w *world) holdPart(p api.Part) {
	w.t.Helper()
	leader := w.servers[p.Leader-1].b
	for _, id := range p.Replicas {
		b := w.servers[id-1].b
		if b.Log(p.Id).Next() != leader.Log(p.Id).Next() || b.High(p.Id) != b.Log(p.Id).Next() || b.Log(p.Id).Start() != leader.Log(p.Id).Start() {
			w.t.Fatalf("of %d the broker %d has %d to %d, committed up to %d; the leader %d to %d", p.Id, id, b.Log(p.Id).Start(), b.Log(p.Id).Next(), b.High(p.Id), leader.Log(p.Id).Start(), leader.Log(p.Id).Next())
		}
	}
	start := leader.Log(p.Id).Start()
	if start < w.floors[p.Id] || start > w.asked[p.Id] {
		w.t.Fatalf("the log of %d starts at %d; deleted is %d, asked %d", p.Id, start, w.floors[p.Id], w.asked[p.Id])
	}
	stands := map[int]string{}
	for _, b := range leader.Log(p.Id).All() {
		for i, r := range b.Records {
			stands[b.Base+i] = r.Value
		}
	}
	for x, v := range w.acked {
		if x[0] == p.Id && x[1] >= start && stands[x[1]] != v {
			w.t.Fatalf("at %d of %d stands %q; acknowledged was %q", x[1], p.Id, stands[x[1]], v)
		}
	}
}

// E8, and what the cluster promises (T1 to T4, T7), as far as brokers do it: through losses, crashes, moves, deletions.
func TestWorlds(t *testing.T) {
	told := map[string]int{}
	acked, moves := 0, 0
	for seed := range 25 {
		w := newWorld(t, chance{rand.New(rand.NewSource(int64(seed)))}, told)
		w.first()
		for range 3 {
			for range 2000 {
				w.happen()
			}
			w.calm()
			w.holdCalm()
			w.isCalm = false
		}
		acked += len(w.acked)
		for part := 1; part <= 3; part++ {
			p, _ := w.servers[0].b.Image().Part(part)
			moves += p.Epoch - 1
		}
	}
	if acked < 2000 || moves < 200 {
		t.Error("acknowledged were", acked, "leaders changed", moves, "times")
	}
	wantTold(t, told, 20, api.AdminTell, api.OK, api.ErrLeader, api.ErrState)
	wantTold(t, told, 20, api.ReadTell, api.OK, api.ErrRange, api.ErrLeader)
	wantTold(t, told, 20, api.DeleteTell, api.OK, api.ErrLeader)
	wantTold(t, told, 20, api.GroupTell, api.OK, api.ErrCoord)
}
