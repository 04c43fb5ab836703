package consumer_test

import (
	"fmt"
	"math/rand"
	"slices"
	"strings"
	"testing"

	"logboom/api"
	"logboom/broker"
	"logboom/consumer"
	"logboom/disk"
	"logboom/producer"
	"logboom/rpc"
)

// server is a broker that may be down.
type server struct {
	id, life int
	d        *disk.Disk
	b        *broker.Broker
}

// world is a cluster with clients: brokers that crash, messages that are lost, come twice or late.
type world struct {
	chance
	t         *testing.T
	c         broker.Config
	servers   []*server
	producers []*producer.Producer
	watches   []*watch
	members   map[string]api.Seen // by consumer and group: what was told of it last
	history   history
	net       []api.Msg
	now, sent int
	isCalm    bool
	mild      int // the greater, the less goes wrong
	apart     int // one whom nobody hears, and who hears nobody
	told      map[string]int
}

const maxClients = 3

func newWorld(t *testing.T, c chance, told map[string]int) *world {
	t.Helper()
	w := &world{chance: c, t: t, members: map[string]api.Seen{}, mild: c.of(1, 4, 12), told: told}
	var ids []int
	for id := 1; id <= c.of(1, 3, 3, 3, 5); id++ {
		ids = append(ids, id)
	}
	w.c = broker.Config{Brokers: ids, Wait: 12, Beat: 3, Session: c.of(40, 150), Lag: c.of(10, 30), Segment: 1000}
	for _, id := range ids {
		d, e := disk.New(4000000)
		if e != api.OK {
			t.Fatal(e)
		}
		s := &server{id: id, d: d}
		w.servers = append(w.servers, s)
		w.begin(s)
	}
	wait, tries := c.of(10, 15), c.of(3, 8, 12)
	for i := range maxClients {
		p, e := producer.New(101+i, ids, wait, tries)
		if e != api.OK {
			t.Fatal(e)
		}
		w.producers = append(w.producers, p)
		w.watches = append(w.watches, newWatch(t, 201+i, ids, wait, tries, w.note))
	}
	return w
}

func (w *world) begin(s *server) {
	w.t.Helper()
	s.life++
	b, e := broker.New(s.id, w.c, s.d, s.life, w.now)
	if e != api.OK {
		w.t.Fatal(e)
	}
	s.b = b
}

// note has a call, or a return, stand in the history.
func (w *world) note(s api.Seen) {
	w.history = append(w.history, s)
	if !s.Done {
		return
	}
	w.told[fmt.Sprint(s.Kind, " ", int(s.Err))]++
	switch key := fmt.Sprint(s.Client, s.Name); {
	case s.Kind == consumer.Join && s.Err == api.OK:
		w.members[key] = s
	case s.Err == api.ErrMember:
		delete(w.members, key)
	case s.Err == api.ErrGen:
		w.members[key] = api.Seen{Pid: s.Pid}
	}
}

// send has messages be on their way, as frames have them.
func (w *world) send(list []api.Msg) {
	w.t.Helper()
	for _, m := range list {
		b, e := rpc.Encode(m)
		if e != api.OK {
			w.t.Fatalf("%v:\n%s", e, show([]api.Msg{m}))
		}
		m, _ = rpc.Decode(b)
		w.net = append(w.net, m)
	}
}

// produced are messages of a producer; what has returned is noted.
func (w *world) produced(p *producer.Producer, list []api.Msg) {
	w.t.Helper()
	w.send(list)
	for _, s := range p.Done() {
		w.note(s)
	}
}

func (w *world) tick() {
	w.t.Helper()
	w.now++
	for _, s := range w.servers {
		if s.b != nil {
			w.send(s.b.Tick(w.now, w.Intn(1000)))
		}
	}
	for i, x := range w.watches {
		w.produced(w.producers[i], w.producers[i].Tick(w.now))
		w.send(x.tick(w.now))
	}
}

// deliver has the i-th message come, if it is not lost.
func (w *world) deliver(i int) {
	w.t.Helper()
	m := w.net[i]
	if w.isCalm || w.Intn(30) > 0 {
		w.net = slices.Delete(w.net, i, i+1)
		if !w.isCalm && (w.Intn(20*w.mild) == 0 || m.From != m.To && (w.apart == m.From || w.apart == m.To)) {
			return
		}
	}
	switch {
	case m.To > 200:
		w.watches[m.To-201].step(w.now, m)
	case m.To > 100:
		p := w.producers[m.To-101]
		w.produced(p, p.Step(w.now, m))
	case w.servers[m.To-1].b != nil:
		w.send(w.servers[m.To-1].b.Step(w.now, m))
	}
}

// produce has a producer send a record of a value that no other one has.
func (w *world) produce(i, part int) {
	w.t.Helper()
	w.sent++
	text := fmt.Sprint("v", w.sent)
	n, list, e := w.producers[i].Send(w.now, part, []api.Record{{Value: text}})
	if e == api.ErrMany {
		return
	}
	if e != api.OK {
		w.t.Fatal(e)
	}
	w.note(api.Seen{Client: 101 + i, Call: n, Kind: consumer.Send, Part: part, Text: text})
	w.produced(w.producers[i], list)
}

// targets are some of the brokers as a list, enough of them to be in sync.
func (w *world) targets() string {
	n := min(2, len(w.servers))
	list := w.Perm(len(w.servers))[:n+w.Intn(len(w.servers)-n+1)]
	var texts []string
	for _, i := range list {
		texts = append(texts, fmt.Sprint(i+1))
	}
	return strings.Join(texts, ",")
}

// commit is one by what a consumer was told when it came, of a partition that it was given.
func (w *world) commit(m api.Seen) api.Seen {
	return api.Seen{Kind: consumer.Commit, Name: m.Name, Part: w.of(2, 3, 2+strings.Count(m.Text, "3")), Pid: m.Pid, Seq: m.Seq, Offset: w.Intn(1000)}
}

// some is a call of the i-th consumer.
func (w *world) some(i int) api.Seen {
	name := []string{"g", "h"}[w.of(0, 0, 0, 1)]
	key := fmt.Sprint(201+i, name)
	m := w.members[key]
	if m.Done {
		m.Done = false
		w.members[key] = m
		return w.commit(m)
	}
	part, offset := 2+w.Intn(2), w.Intn(w.sent/2+2)
	switch n := w.Intn(100); {
	case n < 25:
		return read(part, offset)
	case n < 50:
		return api.Seen{Kind: consumer.Offset, Name: name, Part: part}
	case n < 55 || n < 75 && m.Seq == 0:
		return api.Seen{Kind: consumer.Join, Name: name, Part: 3, Pid: w.of(0, m.Pid, m.Pid)}
	case n < 75:
		return w.commit(m)
	case n < 80:
		return api.Seen{Kind: consumer.Leave, Name: name, Pid: m.Pid, Seq: m.Seq}
	case n < 85:
		return api.Seen{Kind: consumer.Delete, Part: part, Offset: offset / 2}
	case n < 90:
		return api.Seen{Kind: consumer.Create, Name: fmt.Sprint("u", w.Intn(30)), Part: 1 + w.Intn(3), Offset: 1 + w.Intn(len(w.servers)), Seq: 1}
	case n < 97:
		return api.Seen{Kind: consumer.Move, Part: 1 + w.Intn(3), Text: w.targets()}
	}
	return api.Seen{Kind: consumer.Stay, Part: 1 + w.Intn(3)}
}

// happen has one thing happen.
func (w *world) happen() {
	w.t.Helper()
	switch n := w.Intn(1000); {
	case n < 25:
		w.tick()
	case n < 950:
		if k := len(w.net); k > 0 {
			w.deliver(w.of(0, 0, 0, 0, w.Intn(k)))
		}
	case n < 960:
		w.produce(w.Intn(maxClients), 2+w.Intn(2))
	case n < 985:
		i := w.Intn(maxClients)
		w.send(w.watches[i].begin(w.now, w.some(i)))
	case n < 987:
		if s := w.servers[w.Intn(len(w.servers))]; s.b != nil && w.Intn(w.mild) == 0 {
			s.d.Crash(l(w.Intn(300), w.Intn(300), w.Intn(300)))
			s.b = nil
		}
	case n < 989:
		w.apart = w.of(0, 0, 1+w.Intn(len(w.servers))) / w.of(1, w.mild)
	case n < 996:
		if s := w.servers[w.Intn(len(w.servers))]; s.b == nil {
			w.begin(s)
		}
	}
	if n := len(w.net); n > 200 {
		w.net = slices.Clone(w.net[n-150:])
	}
}

// calm has all be well for some time: nothing is lost, all are up.
func (w *world) calm(ticks int) {
	w.t.Helper()
	w.isCalm, w.apart = true, 0
	for _, s := range w.servers {
		if s.b == nil {
			w.begin(s)
		}
	}
	for range ticks {
		w.tick()
		for k := 0; len(w.net) > 0; k++ {
			if k == 10000 {
				w.t.Fatal("messages without end")
			}
			w.deliver(0)
		}
	}
}

// well is a call of the i-th consumer that ends without an error.
func (w *world) well(i int, s api.Seen) api.Seen {
	w.t.Helper()
	w.send(w.watches[i].begin(w.now, s))
	for k := 0; k < 100 && w.watches[i].c.Open() > 0; k++ {
		w.calm(1)
	}
	last := w.history[len(w.history)-1]
	if !last.Done || last.Kind != s.Kind || last.Err != api.OK {
		w.t.Fatalf("of %+v told is %+v", s, last)
	}
	return last
}

// first are the topics that there are from the beginning on.
func (w *world) first() {
	w.t.Helper()
	n := min(3, len(w.servers))
	w.calm(100)
	w.well(0, api.Seen{Kind: consumer.Create, Name: "offsets", Part: 1, Offset: n, Seq: 1})
	w.well(0, api.Seen{Kind: consumer.Create, Name: "t", Part: 2, Offset: n, Seq: min(2, n)})
	w.isCalm = false
}

// holdCalm asks what must be so behind a time in which all was well: all calls returned, and all kinds of calls are done as they are asked.
func (w *world) holdCalm() {
	w.t.Helper()
	for i, x := range w.watches {
		if x.c.Open() != 0 || w.producers[i].Open() != 0 {
			w.t.Fatal("open are", x.c.Open(), "and", w.producers[i].Open())
		}
	}
	for part := 2; part <= 3; part++ {
		w.produce(0, part)
		w.calm(50)
		at := w.history[len(w.history)-1]
		if !at.Done || at.Kind != consumer.Send || at.Err != api.OK {
			w.t.Fatalf("behind a calm %+v", at)
		}
		if got := w.well(1, read(part, at.Offset)); got.Text != at.Text || got.Offset != at.Offset {
			w.t.Fatalf("read is %+v of %+v", got, at)
		}
	}
	// Who was silent for so long is a member no more: the one who comes has all partitions.
	m := w.well(2, api.Seen{Kind: consumer.Join, Name: "g", Part: 3})
	if m.Text != "2,3" {
		w.t.Fatalf("of a group without members told is %+v", m)
	}
	offset := w.now
	w.well(2, api.Seen{Kind: consumer.Commit, Name: "g", Part: 3, Pid: m.Pid, Seq: m.Seq, Offset: offset})
	if got := w.well(0, api.Seen{Kind: consumer.Offset, Name: "g", Part: 3}); got.Offset != offset {
		w.t.Fatalf("committed is %d, told %+v", offset, got)
	}
	w.well(0, api.Seen{Kind: consumer.Move, Part: 2, Text: w.targets()})
	w.calm(60)
	w.holdParts()
}

// holdParts asks that every partition is led, all replicas are in sync, and no move is open.
func (w *world) holdParts() {
	w.t.Helper()
	for _, p := range w.servers[0].b.Image().Parts() {
		if p.Leader == 0 || len(p.Isr) != len(p.Replicas) || len(p.Adding)+len(p.Removing) > 0 {
			w.t.Fatalf("behind a calm %+v", p)
		}
	}
}

// doubts counts topics that no call made well, and of which some call is in doubt: some are there all the same.
func (w *world) doubts() {
	image := w.servers[0].b.Image()
	well, ill := map[string]bool{}, map[string]bool{}
	for _, s := range w.history {
		if s.Done && s.Kind == consumer.Create {
			well[s.Name] = well[s.Name] || s.Err == api.OK
			ill[s.Name] = ill[s.Name] || s.Err == api.ErrLate
		}
	}
	for name := range ill {
		if !well[name] {
			w.told[fmt.Sprint("in doubt ", len(image.Find(name)) > 0)]++
		}
	}
}

// P19.5, and what the cluster promises of what clients see (T1, T2, T3, T6, T7), as far as it hangs on consumers.
func TestWorlds(t *testing.T) {
	told := map[string]int{}
	late, out, refused := 0, 0, 0
	for seed := range 20 {
		w := newWorld(t, chance{rand.New(rand.NewSource(int64(seed)))}, told)
		w.first()
		for range 3 {
			for range 5000 {
				w.happen()
			}
			w.calm(450)
			w.holdCalm()
			w.isCalm = false
		}
		w.doubts()
		if i, why := w.history.wrong(); i >= 0 {
			t.Fatalf("seed %d: %s at %d: %+v", seed, why, i, w.history[i])
		}
		for _, x := range w.watches {
			late, out, refused = late+x.late, out+x.out, refused+x.refused
		}
	}
	if late < 1000 || out < 500 || refused < 2000 {
		t.Error("late are", late, "without tries", out, "refused", refused)
	}
	for kind := consumer.Read; kind <= consumer.Send; kind++ {
		if n := told[fmt.Sprint(kind, " ", int(api.OK))]; n < 50 && kind != consumer.Stay {
			t.Error("of", kind, "are well", n)
		}
		if n := told[fmt.Sprint(kind, " ", int(api.ErrLate))]; n < 50 {
			t.Error("of", kind, "are late", n)
		}
	}
	for _, x := range []string{"in doubt true", "in doubt false", "4 17", "4 18", "1 10"} {
		if told[x] < 5 {
			t.Error(x, told[x])
		}
	}
}
