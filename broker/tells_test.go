package broker_test

import (
	"slices"
	"testing"

	"logboom/api"
	"logboom/broker"
	"logboom/meta"
)

// The document's example.
func TestExample(t *testing.T) {
	b, e := broker.New(1, broker.Config{Brokers: l(1), Wait: 10, Beat: 5, Session: 30, Lag: 20, Segment: 1000}, newDisk(t, 100000), 1, 0)
	must(t, e)
	for _, now := range l(0, 10, 15, 20) {
		wantMsgs(t, b.Tick(now, 0))
	}
	if !b.Controls() || !slices.Equal(b.Image().Up(), l(1)) {
		t.Fatal("it does not control, or is not up", b.Image().Up())
	}
	list := b.Step(20, api.Msg{Kind: api.AdminAsk, From: 101, To: 1, Id: 3, Index: meta.Topic, Name: "offsets", High: 1, Seq: 1, Pid: 1})
	wantMsgs(t, list, api.Msg{Kind: api.AdminTell, From: 1, To: 101, Id: 3, Offset: 1})
	if !slices.Equal(b.Leads(), l(1)) {
		t.Error("it leads", b.Leads())
	}
}

// E7: what is told of a broker that leads and follows.
func TestTells(t *testing.T) {
	r := serving(t)
	if r.b.Controls() || !slices.Equal(r.b.Leads(), l(1, 2, 3)) {
		t.Error("Controls", r.b.Controls(), "Leads", r.b.Leads())
	}
	r.wantNothing(produce(2, 0, batch("x", "y")))
	r.tick(1)
	r.step(api.Msg{Kind: api.FetchTell, From: 3, Part: 5, Epoch: 1, Pid: 1, PidEpoch: 1, Id: 1, High: 1, Batches: []api.Batch{at(0, 1, batch("x", "y"))}})
	r.step(fetch(2, 2, 1, 1, 1))
	for part, want := range map[int][2]int{1: {1, 1}, 2: {2, 1}, 3: {0, 0}, 5: {2, 1}} {
		if got := [2]int{r.b.Log(part).Next(), r.b.High(part)}; got != want {
			t.Error("of", part, "there is", got, "want", want)
		}
	}
	for _, part := range append(wild(), 0, 4, 6, 7, 16, 17) {
		if r.b.Log(part) != nil || r.b.High(part) != -1 {
			t.Error("of", part, "there is", r.b.Log(part), r.b.High(part))
		}
	}
	r.feed(api.Meta{Kind: meta.Move, A: 5, List: l(3)}, done(5))
	if r.b.High(5) != -1 || r.b.Log(5).Next() != 2 {
		t.Error("of 5 there is", r.b.High(5), r.b.Log(5).Next())
	}
	// P3: a list that was told is not its own.
	r.b.Leads()[0] = 9
	if !slices.Equal(r.b.Leads(), l(1, 2, 3)) {
		t.Error("it leads", r.b.Leads())
	}
}

// E7: the files of partitions begin with their names, those of the node with its own.
func TestFiles(t *testing.T) {
	r := serving(t)
	r.wantNothing(produce(2, 0, batch("x")))
	want := []string{"part-1-0000000000.log", "part-1.epochs", "part-2-0000000000.log", "part-2.epochs", "part-3-0000000000.log", "part-5-0000000000.log", "raft.log", "raft.term"}
	if got := r.d.Names(); !slices.Equal(got, want) {
		t.Error("files", got)
	}
	// A segment with so many bytes is followed by another.
	for range 3 {
		r.wantNothing(produce(2, 0, batch(string(make([]byte, 990)))))
	}
	if got := r.d.Names(); !slices.Contains(got, "part-2-0000000002.log") || slices.Contains(got, "part-2-0000000001.log") {
		t.Error("files", got)
	}
}

// E8: one that is asked for nothing tells nothing, if it is alone.
func TestIdleAlone(t *testing.T) {
	r := leading(t)
	was := r.b.Image().Applied()
	for r.now < 500 {
		wantMsgs(t, r.tick(r.now+1))
	}
	if r.b.Image().Applied() != was {
		t.Error("applied are", r.b.Image().Applied())
	}
}

// E8: one that is asked for nothing, and hears of its controller, sends beats and fetches alone.
func TestIdleMember(t *testing.T) {
	r := serving(t)
	var beats, fetches int
	for r.now < 500 {
		r.calm()
		for _, m := range r.tick(r.now + 1) {
			switch m.Kind {
			case api.BeatAsk:
				beats++
			case api.FetchAsk:
				fetches++
			case api.AlterAsk: // 2 and 3 do not ask: that they be dropped is told with the beat
			default:
				t.Fatal(show(l1(m)))
			}
		}
	}
	if beats != 100 || fetches != 100 {
		t.Error("it sent", beats, "beats and", fetches, "fetches")
	}
}

// E3, E8: messages to others, and those that are not right, change nothing.
func TestWrongMessages(t *testing.T) {
	r := leading(t)
	right := []api.Msg{
		produce(2, 0, batch("x")), read(2, 0), deletes(2, 0), join("g", 2), topic("u", 1, 1), beatOf(2, 1), alters(1, 2, 1, 1, 1),
		{Kind: api.InfoAsk, Name: "t"}, fetch(2, 2, 1, 0, -1), {Kind: api.VoteAsk, From: 2, Term: 9}, {Kind: api.AppendAsk, From: 2, Term: 9},
	}
	was, image := picture(r.d), r.b.Image().Keep()
	long := string(make([]byte, 65536))
	for _, m := range right {
		m.From, m.To = max(m.From, 2), 1
		for _, wrong := range []func(*api.Msg){
			func(m *api.Msg) { m.To = 0 },
			func(m *api.Msg) { m.To = 2 },
			func(m *api.Msg) { m.To = -1 },
			func(m *api.Msg) { m.Kind = 0 },
			func(m *api.Msg) { m.Kind = 29 },
			func(m *api.Msg) { m.Kind += 100 },
			func(m *api.Msg) { m.From = -2 },
			func(m *api.Msg) { m.Id = api.MaxOffset + 1 },
			func(m *api.Msg) { m.Last = -2 },
			func(m *api.Msg) { m.Err = 24 },
			func(m *api.Msg) { m.Err = -1 },
			func(m *api.Msg) { m.Name = long[:33] },
			func(m *api.Msg) { m.Text = long },
			func(m *api.Msg) { m.Ints = make([]int, 257) },
			func(m *api.Msg) { m.Batches = make([]api.Batch, 1) },
			func(m *api.Msg) { m.Batches = []api.Batch{batch("x"), batch(long[:1001])} },
			func(m *api.Msg) { m.Entries = make([]api.Entry, 65) },
			func(m *api.Msg) { m.Entries = []api.Entry{{Term: -1}} },
		} {
			x := m
			wrong(&x)
			wantMsgs(t, r.b.Step(21, x))
		}
	}
	wantMsgs(t, r.b.Step(21, api.Msg{}))
	if picture(r.d) != was || r.b.Image().Keep() != image {
		t.Error("the disk has", picture(r.d))
	}
	wantMsgs(t, r.tick(22))
	r.wantTell(produce(2, 0, batch("x")), api.OK, api.Msg{})
}

// E3: to settle is behind each message that is right, also one of which nothing becomes.
func TestStepSettles(t *testing.T) {
	r := rigged(t, 1, config(1), 1)
	r.tick(0)
	r.tick(10)
	if n := r.b.Image().Applied(); n != 0 {
		t.Fatal("applied are", n)
	}
	r.step(api.Msg{Kind: api.PidAsk, Err: 24})
	r.step(api.Msg{Kind: 29})
	if n := r.b.Image().Applied(); n != 0 {
		t.Fatal("applied are", n)
	}
	r.step(api.Msg{Kind: api.PidAsk})
	if n := r.b.Image().Applied(); n != 1 {
		t.Fatal("applied are", n)
	}
}

// P4: what is told hangs on nothing but what was done.
func TestTwins(t *testing.T) {
	var told [2][]api.Msg
	for i := range told {
		r := serving(t)
		for now := 1; now < 60; now++ {
			told[i] = append(told[i], r.tick(now)...)
			told[i] = append(told[i], r.step(client(produce(now%7, 0, batch("x"))))...)
			told[i] = append(told[i], r.step(client(join("g", now%16+1)))...)
			told[i] = append(told[i], r.step(client(topic("v", 1, 1)))...)
		}
	}
	wantMsgs(t, told[0], told[1]...)
}
