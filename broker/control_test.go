package broker_test

import (
	"slices"
	"testing"

	"logboom/api"
	"logboom/meta"
)

// beatOf is a broker's heartbeat.
func beatOf(from, life int) api.Msg {
	return api.Msg{Kind: api.BeatAsk, From: from, Id: 7, Index: life}
}

func register(id, life int) api.Meta { return api.Meta{Kind: meta.Register, A: id, B: life} }
func unfence(id, life int) api.Meta  { return api.Meta{Kind: meta.Unfence, A: id, B: life} }
func fence(id, life int) api.Meta    { return api.Meta{Kind: meta.Fence, A: id, B: life} }
func done(part int) api.Meta         { return api.Meta{Kind: meta.Done, A: part} }

// wantBeat asks what a heartbeat is answered, and what is proposed of it.
func (r *rig) wantBeat(m api.Msg, want ...api.Meta) {
	r.t.Helper()
	list := r.step(m)
	r.wantProposed(want...)
	if n := 2 * len(want); len(list) != n+1 {
		r.t.Fatalf("told\n%s", show(list))
	}
	told := api.Msg{Kind: api.BeatTell, From: r.id, To: m.From, Id: 7, Part: m.Part}
	wantMsgs(r.t, list[len(list)-1:], told)
}

// E3: who does not control tells whom it takes for the controller.
func TestNotTheController(t *testing.T) {
	asks := []api.Msg{beatOf(2, 1), {Kind: api.AlterAsk, From: 2, Id: 7, Part: 2}, {Kind: api.AdminAsk, From: 101, Id: 7, Index: meta.Pid}, {Kind: api.AdminAsk, From: 101, Id: 7}}
	wantRefer := func(r *rig, hint int) {
		t.Helper()
		for _, m := range asks {
			wantMsgs(t, r.step(m), api.Msg{Kind: m.Kind + 1, From: 1, To: m.From, Id: 7, Part: m.Part, Err: api.ErrLeader, Last: hint})
		}
	}
	r := rigged(t, 1, config(1, 2, 3), 1)
	wantRefer(r, 0)
	r.tick(0)
	r.tick(10)
	// A candidate knows of none.
	wantRefer(r, 0)
	wantRefer(member(t), 2)
	r = controller(t)
	r.step(api.Msg{Kind: api.AppendTell, From: 3, Term: 2})
	wantRefer(r, 0)
	r.step(api.Msg{Kind: api.AppendAsk, From: 3, Term: 2, Index: 1, Last: 1})
	wantRefer(r, 3)
}

// E4: a life that is new is registered, one that is known is up again; each is tried again Beat ticks later.
func TestBeats(t *testing.T) {
	r := controller(t)
	r.wantBeat(beatOf(2, 4), register(2, 4))
	r.wantBeat(beatOf(2, 4))
	r.wantBeat(beatOf(2, 5))
	r.wantBeat(beatOf(3, 1), register(3, 1))
	r.now = 14
	r.wantBeat(beatOf(2, 4))
	r.now = 15
	r.wantBeat(beatOf(2, 4), register(2, 4))
	r.agree()
	r.wantBeat(beatOf(2, 3))
	r.wantBeat(beatOf(2, 0))
	r.wantBeat(beatOf(2, 4), unfence(2, 4))
	r.wantBeat(beatOf(2, 4))
	r.now = 19
	r.wantBeat(beatOf(2, 4))
	r.now = 20
	r.wantBeat(beatOf(2, 4), unfence(2, 4))
	r.agree()
	r.now = 25
	r.wantBeat(beatOf(2, 4))
	r.wantBeat(beatOf(2, 3))
	// A new life of one that is up.
	r.wantBeat(beatOf(2, 6), register(2, 6))
	r.agree()
	r.wantBeat(beatOf(2, 6), unfence(2, 6))
	// Each at its own times.
	r.wantBeat(beatOf(3, 1), unfence(3, 1))
	r.wantBeat(beatOf(3, 9), register(3, 9))
}

// E4: beats of those who are none of the brokers, and of no life, as the words say.
func TestOddBeats(t *testing.T) {
	r := controller(t)
	m := beatOf(2, 0)
	m.Part = 3
	r.wantBeat(m, unfence(2, 0))
	r.wantBeat(beatOf(2, -1))
	r.wantBeat(beatOf(7, 1), register(7, 1))
	r.wantBeat(beatOf(101, 1), register(101, 1))
	r.wantBeat(beatOf(101, 1))
	r.wantBeat(beatOf(0, 1), register(0, 1))
	r.wantBeat(beatOf(api.MaxOffset, api.MaxOffset), register(api.MaxOffset, api.MaxOffset))
	// So far these are registered: a heartbeat from -1 can be nobody's.
	r.agree()
	if r.b.Image().Keep() == meta.New().Keep() || r.b.Image().Applied() != 5 {
		t.Error("applied are", r.b.Image().Applied())
	}
	if _, ok := r.b.Image().Life(7); !ok || len(r.b.Image().Up()) != 0 {
		t.Error("up are", r.b.Image().Up())
	}
}

// E4: a heartbeat is answered with OK, whatever comes of its record; that was tried, too.
func TestBeatsOnFullDisk(t *testing.T) {
	r := controller(t)
	fill(t, r.d)
	r.wantBeat(beatOf(2, 1))
	must(t, r.d.Remove("stuff"))
	r.wantBeat(beatOf(2, 1))
	r.now += 5
	r.wantBeat(beatOf(2, 1), register(2, 1))
}

// alters is a leader's wish.
func alters(from, part, epoch, version int, isr ...int) api.Msg {
	return api.Msg{Kind: api.AlterAsk, From: from, Id: 7, Part: part, Epoch: epoch, Offset: version, Ints: isr}
}

// E4: a leader's wish becomes a record, whatever it is; it is answered at once.
func TestAlters(t *testing.T) {
	r := controller(t)
	wantAlter := func(m api.Msg, e api.Errno, want ...api.Meta) {
		t.Helper()
		list := r.step(m)
		r.wantProposed(want...)
		told := api.Msg{Kind: api.AlterTell, From: 1, To: m.From, Id: 7, Part: m.Part, Err: e}
		if n := len(list); n != 2*len(want)+1 {
			t.Fatalf("told\n%s", show(list))
		}
		wantMsgs(t, list[len(list)-1:], told)
	}
	record := func(part, from, epoch, version int, isr ...int) api.Meta {
		return api.Meta{Kind: meta.Alter, A: part, B: from, C: epoch, D: version, List: isr}
	}
	wantAlter(alters(2, 3, 4, 5, 3, 2), api.OK, record(3, 2, 4, 5, 3, 2))
	// It is not held back, as what the controller wants by itself.
	wantAlter(alters(2, 3, 4, 5, 3, 2), api.OK, record(3, 2, 4, 5, 3, 2))
	wantAlter(alters(101, 0, 0, 0), api.OK, record(0, 101, 0, 0))
	wantAlter(alters(2, 3, 4, 5, make([]int, 64)...), api.OK, record(3, 2, 4, 5, make([]int, 64)...))
	wantAlter(alters(2, 3, 4, 5, make([]int, 65)...), api.ErrMany)
	fill(t, r.d)
	wantAlter(alters(2, 3, 4, 5, make([]int, 65)...), api.ErrMany)
	wantAlter(alters(2, 3, 4, 5, 2), api.ErrFull)
}

// E4: a wish that is taken is applied as it is, and told to nobody.
func TestAltersAreApplied(t *testing.T) {
	r := controller(t)
	r.comes(1, 1)
	r.comes(2, 1)
	r.step(client(topic("offsets", 1, 2)))
	r.agree()
	r.step(alters(1, 1, 1, 1, 1))
	wantMsgs(t, r.agree())
	if p := r.part(1); len(p.Isr) != 1 || p.Isr[0] != 1 || p.Version != 2 || p.Leader != 1 {
		t.Errorf("%+v", p)
	}
}

// E4: what a client wishes becomes a record with all that it says.
func TestAdminRecords(t *testing.T) {
	r := controller(t)
	for kind := -1; kind <= 11; kind++ {
		m := client(api.Msg{Kind: api.AdminAsk, Index: kind, Part: 9, Name: "n", High: 2, Seq: 3, Pid: 4, Ints: l(5, 6), Offset: 7, Epoch: 8})
		list := r.step(m)
		switch kind {
		case meta.Topic, meta.Move, meta.Stay, meta.Prefer, meta.Pid:
			r.wantProposed(api.Meta{Kind: kind, Name: "n", A: 2, B: 3, C: 4, List: l(5, 6)})
			if len(list) != 2 || list[0].Kind != api.AppendAsk || list[1].Kind != api.AppendAsk {
				t.Fatal(show(list))
			}
		default:
			r.wantProposed()
			wantMsgs(t, list, r.tells(api.AdminTell, api.ErrArg, api.Msg{Part: 9}))
		}
	}
	many := api.Msg{Kind: api.AdminAsk, Index: meta.Move, Ints: make([]int, 65)}
	r.wantTell(many, api.ErrMany, api.Msg{})
	fill(t, r.d)
	r.wantTell(many, api.ErrMany, api.Msg{})
	r.wantTell(topic("t", 1, 1), api.ErrFull, api.Msg{})
	r.wantTell(api.Msg{Kind: api.AdminAsk, Index: meta.Fence}, api.ErrArg, api.Msg{})
}

// E4, E6: a wish is answered when it is agreed on, with what came of it.
func TestWishes(t *testing.T) {
	r := controller(t)
	r.comes(1, 1)
	r.comes(2, 1)
	wishes := []struct {
		m    api.Msg
		e    api.Errno
		told int
	}{
		{topic("offsets", 1, 2), api.OK, 1},
		{topic("offsets", 1, 2), api.ErrTwice, 0},
		{topic("t", 2, 2), api.OK, 2},
		{topic("u", 1, 3), api.ErrMany, 0},
		{topic("U", 1, 1), api.ErrArg, 0},
		{api.Msg{Kind: api.AdminAsk, Index: meta.Pid}, api.OK, 1},
		{api.Msg{Kind: api.AdminAsk, Index: meta.Pid}, api.OK, 2},
		{api.Msg{Kind: api.AdminAsk, Index: meta.Pid, High: 9}, api.ErrNone, 0},
		{api.Msg{Kind: api.AdminAsk, Index: meta.Move, High: 2, Ints: l(2)}, api.OK, 2},
		{api.Msg{Kind: api.AdminAsk, Index: meta.Stay, High: 2}, api.OK, 3},
		{api.Msg{Kind: api.AdminAsk, Index: meta.Stay, High: 2}, api.ErrState, 0},
		{api.Msg{Kind: api.AdminAsk, Index: meta.Prefer, High: 3}, api.OK, 1},
	}
	var want []api.Msg
	for i, x := range wishes {
		m := client(x.m)
		m.Id = i
		if list := r.step(m); len(list) != 2 {
			t.Fatal(show(list))
		}
		want = append(want, api.Msg{Kind: api.AdminTell, From: 1, To: 101, Id: i, Err: x.e, Offset: x.told})
	}
	wantMsgs(t, r.agree(), want...)
	wantMsgs(t, r.agree())
}

// E6: of a wish in whose place another entry stands nobody knows what came.
func TestWishesOfElderTerms(t *testing.T) {
	r := controller(t)
	at := r.end
	r.step(client(topic("t", 1, 1)))
	r.step(client(topic("u", 1, 1)))
	r.step(client(topic("v", 1, 1)))
	// The first of them goes on; the second and the third do not.
	first := api.Entry{Term: 1, Index: at + 1, Data: entry(t, api.Meta{Kind: meta.Topic, Name: "t", A: 1, B: 1, C: 1})}
	list := r.step(api.Msg{Kind: api.AppendAsk, From: 3, Term: 2, Index: at, Last: 1, High: at + 2, Entries: []api.Entry{first, {Term: 2, Index: at + 2}}})
	wantMsgs(t, list, api.Msg{Kind: api.AppendTell, From: 1, To: 3, Term: 2, Index: at + 2},
		r.tells(api.AdminTell, api.ErrMany, api.Msg{}), r.tells(api.AdminTell, api.ErrLeader, api.Msg{}))
	list = r.step(api.Msg{Kind: api.AppendAsk, From: 3, Term: 2, Index: at + 2, Last: 2, High: at + 3, Entries: []api.Entry{{Term: 2, Index: at + 3, Data: entry(t, register(2, 1))}}})
	wantMsgs(t, list, api.Msg{Kind: api.AppendTell, From: 1, To: 3, Term: 2, Index: at + 3}, r.tells(api.AdminTell, api.ErrLeader, api.Msg{}))
}

// E6: what came of a wish that lies in a snapshot nobody tells.
func TestWishesInSnapshots(t *testing.T) {
	for _, text := range []string{meta.New().Keep(), "no image"} {
		r := controller(t)
		at := r.end
		r.step(client(topic("t", 1, 1)))
		wantMsgs(t, r.step(api.Msg{Kind: api.SnapAsk, From: 3, Term: 2, Index: at + 1, Last: 2, Text: text}),
			api.Msg{Kind: api.SnapTell, From: 1, To: 3, Term: 2, Index: at + 1})
		wantMsgs(t, r.step(api.Msg{Kind: api.AppendAsk, From: 3, Term: 2, Index: at + 1, Last: 2, High: at + 2, Entries: []api.Entry{{Term: 2, Index: at + 2, Data: entry(t, register(2, 1))}}}),
			api.Msg{Kind: api.AppendTell, From: 1, To: 3, Term: 2, Index: at + 2})
	}
}

// E5: who is silent for a session is fenced, and again Beat ticks later.
func TestFences(t *testing.T) {
	r := controller(t)
	for _, id := range l(3, 1, 2) {
		r.comes(id, 1)
	}
	wantDuties := func(now int, want ...api.Meta) {
		t.Helper()
		r.tick(now)
		r.wantProposed(want...)
	}
	// It hears of itself by its own beats.
	for _, now := range l(15, 20, 25, 30, 35) {
		wantDuties(now)
	}
	r.step(beatOf(2, 1))
	wantDuties(39)
	// No duties were done ahead of the tick 15, in this term: all were heard then at the latest.
	wantDuties(44)
	wantDuties(45, fence(3, 1))
	wantDuties(49)
	wantDuties(50, fence(3, 1))
	wantDuties(55, fence(3, 1))
	r.agree()
	wantDuties(64)
	// 2 beat at 35.
	wantDuties(65, fence(2, 1))
	r.step(beatOf(2, 1))
	wantDuties(70)
	r.agree()
	wantDuties(75)
	if up := r.b.Image().Up(); len(up) != 1 || up[0] != 1 {
		t.Error("up are", up)
	}
}

// E5: brokers are fenced by rising ids, in their lives; then moves are done, by rising partitions; each tries apart.
func TestDutiesInOrder(t *testing.T) {
	r := controller(t)
	r.comes(1, 1)
	r.comes(3, 5)
	r.comes(2, 4)
	for _, m := range []api.Msg{topic("offsets", 1, 1), topic("t", 3, 1),
		{Kind: api.AdminAsk, Index: meta.Move, High: 4, Ints: l(1, 2)},
		{Kind: api.AdminAsk, Index: meta.Move, High: 2, Ints: l(3, 1)},
		{Kind: api.AdminAsk, Index: meta.Move, High: 1, Ints: l(1, 2)},
	} {
		r.step(client(m))
		r.agree()
	}
	// Of the moves all targets of 2 and of 4 are in sync; of 1 not, and 3 is not moved.
	r.step(alters(1, 2, 1, 2, 1, 3))
	r.step(alters(3, 4, 1, 2, 3, 1, 2))
	r.agree()
	wantDone := func(now int, want ...api.Meta) {
		t.Helper()
		r.tick(now)
		r.wantProposed(want...)
	}
	wantDone(11, done(2), done(4))
	wantDone(15)
	wantDone(16, done(2), done(4))
	wantDone(45, fence(1, 1), fence(2, 4), fence(3, 5), done(2), done(4), api.Meta{Kind: meta.Alter, A: 2, B: 1, C: 1, D: 3, List: l(1)})
	r.agree()
	for id, want := range map[int][]int{1: l(1, 2), 2: l(3, 1), 3: l(2), 4: l(1, 2)} {
		if p := r.part(id); !slices.Equal(p.Replicas, want) || len(p.Removing) != 0 {
			t.Errorf("%+v", p)
		}
	}
	if up := r.b.Image().Up(); len(up) != 0 {
		t.Error("up are", up)
	}
}

// E5: a move is done when all targets are in sync, whoever goes.
func TestMovesToOthers(t *testing.T) {
	c := config(1, 2, 3)
	c.Lag = 1000
	r := controls(t, c)
	for _, id := range l(1, 2, 3) {
		r.comes(id, 1)
	}
	for _, m := range []api.Msg{topic("offsets", 1, 2), {Kind: api.AdminAsk, Index: meta.Move, High: 1, Ints: l(2, 3)}} {
		r.step(client(m))
		r.agree()
	}
	wantDone := func(isr []int, want ...api.Meta) {
		t.Helper()
		r.now += 10
		r.step(alters(1, 1, 1, r.part(1).Version, isr...))
		r.agree()
		r.step(beatOf(2, 1))
		r.step(beatOf(3, 1))
		r.tick(r.now)
		r.wantProposed(want...)
	}
	wantDone(l(1, 2))
	wantDone(l(1))
	wantDone(l(1, 3))
	wantDone(l(1, 2, 3), done(1))
	r.agree()
	if p := r.part(1); !slices.Equal(p.Replicas, l(2, 3)) || p.Leader != 2 {
		t.Errorf("%+v", p)
	}
	// One that drops alone is done at once; of what does not move nothing is to be done.
	r.step(client(api.Msg{Kind: api.AdminAsk, Index: meta.Move, High: 1, Ints: l(2)}))
	r.agree()
	r.now += 10
	r.tick(r.now)
	r.wantProposed(done(1))
	r.agree()
	r.now += 5
	r.tick(r.now)
	r.wantProposed()
}

// E5: a controller that begins anew takes all for heard.
func TestNewTerms(t *testing.T) {
	r := controller(t)
	r.comes(1, 1)
	r.comes(2, 1)
	r.tick(15)
	r.step(api.Msg{Kind: api.AppendTell, From: 3, Term: 2})
	if r.b.Controls() {
		t.Fatal("it controls")
	}
	// Who does not control fences nobody.
	wantMsgs(t, r.tick(19))
	wantMsgs(t, r.tick(20), api.Msg{Kind: api.VoteAsk, From: 1, To: 2, Term: 3, Index: r.end, Last: 1}, api.Msg{Kind: api.VoteAsk, From: 1, To: 3, Term: 3, Index: r.end, Last: 1})
	r.term = 3
	r.step(api.Msg{Kind: api.VoteTell, From: 2, Term: 3})
	r.agree()
	r.step(beatOf(2, 1))
	r.tick(22)
	r.wantProposed()
	r.tick(51)
	r.wantProposed()
	r.tick(52)
	r.wantProposed(fence(2, 1))
}
