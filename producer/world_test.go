package producer_test

import (
	"math/rand"
	"slices"
	"testing"

	"logboom/api"
	"logboom/broker"
	"logboom/disk"
	"logboom/meta"
	"logboom/rpc"
)

// server is a broker that may be down.
type server struct {
	id, life int
	d        *disk.Disk
	b        *broker.Broker
}

// world is a cluster with producers: brokers that crash, messages that are lost, come twice or late.
type world struct {
	chance
	t       *testing.T
	c       broker.Config
	servers []*server
	watches []*watch
	net     []api.Msg
	now     int
	isCalm  bool
	apart   int // one whom nobody hears, and who hears nobody
	told    map[api.Errno]int
}

func newWorld(t *testing.T, c chance, told map[api.Errno]int) *world {
	t.Helper()
	w := &world{chance: c, t: t, told: told}
	var ids []int
	for id := 1; id <= c.of(1, 3, 3, 3, 5); id++ {
		ids = append(ids, id)
	}
	w.c = broker.Config{Brokers: ids, Wait: 12, Beat: 3, Session: c.of(15, 40), Lag: c.of(10, 30), Segment: 1000}
	for _, id := range ids {
		d, e := disk.New(4000000)
		if e != api.OK {
			t.Fatal(e)
		}
		s := &server{id: id, d: d}
		w.servers = append(w.servers, s)
		w.begin(s)
	}
	for id := 101; id <= 103; id++ {
		w.watches = append(w.watches, newWatch(t, id, ids, c.of(6, 15), c.of(4, 8, 12)))
	}
	return w
}

func (w *world) begin(s *server) {
	w.t.Helper()
	s.life++
	b, e := broker.New(s.id, w.c, s.d, s.life, w.now)
	if e != api.OK {
		w.t.Fatal(e)
	}
	s.b = b
}

// send has messages be on their way, as frames have them.
func (w *world) send(list []api.Msg) {
	w.t.Helper()
	for _, m := range list {
		b, e := rpc.Encode(m)
		if e != api.OK {
			w.t.Fatalf("%v:\n%s", e, show([]api.Msg{m}))
		}
		m, _ = rpc.Decode(b)
		w.net = append(w.net, m)
	}
}

func (w *world) tick() {
	w.t.Helper()
	w.now++
	for _, s := range w.servers {
		if s.b != nil {
			w.send(s.b.Tick(w.now, w.Intn(1000)))
		}
	}
	for _, x := range w.watches {
		w.send(x.tick(w.now))
	}
}

// deliver has the i-th message come, if it is not lost.
func (w *world) deliver(i int) {
	w.t.Helper()
	m := w.net[i]
	if w.isCalm || w.Intn(30) > 0 {
		w.net = slices.Delete(w.net, i, i+1)
		if !w.isCalm && (w.Intn(20) == 0 || m.From != m.To && (w.apart == m.From || w.apart == m.To)) {
			return
		}
	}
	switch {
	case m.To > 200:
	case m.To > 100:
		w.told[m.Err]++
		w.send(w.watches[m.To-101].step(w.now, m))
	case w.servers[m.To-1].b != nil:
		w.send(w.servers[m.To-1].b.Step(w.now, m))
	}
}

// ask has somebody ask all brokers for a change of the metadata.
func (w *world) ask(m api.Msg) {
	w.t.Helper()
	for _, s := range w.servers {
		m.Kind, m.From, m.To, m.Id = api.AdminAsk, 201, s.id, 1
		w.send([]api.Msg{m})
	}
}

// targets are some of the brokers, enough of them to be in sync.
func (w *world) targets() []int {
	n := min(2, len(w.servers))
	list := w.Perm(len(w.servers))[:n+w.Intn(len(w.servers)-n+1)]
	for i := range list {
		list[i]++
	}
	return list
}

// happen has one thing happen.
func (w *world) happen() {
	w.t.Helper()
	switch n := w.Intn(1000); {
	case n < 60:
		w.tick()
	case n < 900:
		if k := len(w.net); k > 0 {
			w.deliver(w.of(0, 0, 0, 0, w.Intn(k)))
		}
	case n < 960:
		w.send(w.watches[w.Intn(3)].send(w.now, 2+w.Intn(2), 1+w.Intn(3)))
	case n < 963:
		if s := w.servers[w.Intn(len(w.servers))]; s.b != nil {
			s.d.Crash(l(w.Intn(300), w.Intn(300), w.Intn(300)))
			s.b = nil
		}
	case n < 966:
		w.apart = w.of(0, 0, 1+w.Intn(len(w.servers)))
	case n < 980:
		if s := w.servers[w.Intn(len(w.servers))]; s.b == nil {
			w.begin(s)
		}
	case n < 990:
		w.ask(api.Msg{Index: w.of(meta.Prefer, meta.Move), High: 2 + w.Intn(2), Ints: w.targets()})
	}
	if n := len(w.net); n > 200 {
		w.net = slices.Clone(w.net[n-150:])
	}
}

// calm has all be well for some time: nothing is lost, all are up.
func (w *world) calm(ticks int) {
	w.t.Helper()
	w.isCalm, w.apart = true, 0
	for _, s := range w.servers {
		if s.b == nil {
			w.begin(s)
		}
	}
	for range ticks {
		w.tick()
		for k := 0; len(w.net) > 0; k++ {
			if k == 10000 {
				w.t.Fatal("messages without end")
			}
			w.deliver(0)
		}
	}
}

// first are the topics that there are from the beginning on.
func (w *world) first() {
	w.t.Helper()
	n := min(3, len(w.servers))
	w.calm(100)
	w.ask(api.Msg{Index: meta.Topic, Name: "offsets", High: 1, Seq: n, Pid: 1})
	w.calm(10)
	w.ask(api.Msg{Index: meta.Topic, Name: "t", High: 2, Seq: n, Pid: min(2, n)})
	w.calm(10)
	if len(w.servers[0].b.Image().Parts()) != 3 {
		w.t.Fatal("there are no topics")
	}
	w.isCalm = false
}

// holdCalm asks what must be so behind a time in which all was well: all calls returned, and what is sent is acknowledged.
func (w *world) holdCalm() {
	w.t.Helper()
	for _, x := range w.watches {
		if x.p.Open() != 0 {
			w.t.Fatal("open are", x.p.Open())
		}
		for part := 2; part <= 3; part++ {
			w.send(x.send(w.now, part, 2))
		}
	}
	w.calm(100)
	for _, x := range w.watches {
		for _, c := range x.calls[len(x.calls)-2:] {
			if !c.gone || c.err != api.OK {
				w.t.Fatalf("behind a calm %+v", *c)
			}
		}
	}
	for part := 2; part <= 3; part++ {
		w.holdPart(part)
	}
}

// holdPart asks that what was acknowledged stands where it was told, nothing twice, sequences in their order.
func (w *world) holdPart(part int) {
	w.t.Helper()
	p, _ := w.servers[0].b.Image().Part(part)
	at, seqs := map[string]int{}, map[place]int{}
	for _, b := range w.servers[p.Leader-1].b.Log(part).All() {
		for i, r := range b.Records {
			if _, ok := at[r.Value]; ok {
				w.t.Fatalf("%q stands twice", r.Value)
			}
			at[r.Value] = b.Base + i
		}
		x := place{b.Pid, b.PidEpoch, part, 0}
		if seqs[x] != b.Seq {
			w.t.Fatalf("%+v goes on with %d", x, b.Seq)
		}
		seqs[x] = b.Seq + len(b.Records)
	}
	for _, x := range w.watches {
		for _, c := range x.calls {
			for i, r := range c.list {
				if n, ok := at[r.Value]; c.part == part && c.err == api.OK && (!ok || n != c.offset+i) {
					w.t.Fatalf("%q was acknowledged at %d of %d, and stands at %d", r.Value, c.offset+i, part, n)
				}
			}
		}
	}
}

// P18.5, and what the cluster promises of what is sent (T1, T3, T7), as far as producers and brokers do it.
func TestWorlds(t *testing.T) {
	told := map[api.Errno]int{}
	calls, failed := 0, 0
	for seed := range 20 {
		w := newWorld(t, chance{rand.New(rand.NewSource(int64(seed)))}, told)
		w.first()
		for range 3 {
			for range 2500 {
				w.happen()
			}
			w.calm(450)
			w.holdCalm()
			w.isCalm = false
		}
		for _, x := range w.watches {
			calls += len(x.calls)
			for _, c := range x.calls {
				if c.err != api.OK {
					failed++
				}
			}
		}
	}
	if calls < 4000 || failed < 100 || failed > calls/2 {
		t.Error("of", calls, "calls failed", failed)
	}
	for _, err := range []api.Errno{api.OK, api.ErrLeader, api.ErrInsync} {
		if told[err] < 100 {
			t.Error(err, told[err])
		}
	}
}
