package broker_test

import (
	"testing"

	"logboom/api"
	"logboom/broker"
	"logboom/dedup"
	"logboom/meta"
)

// asks is what a follower with nothing asks.
func asks(part, leader, made, number int) api.Msg {
	return api.Msg{Kind: api.FetchAsk, From: 1, To: leader, Part: part, Epoch: 1, Last: -1, Pid: 1, PidEpoch: made, Id: number}
}

// beatTo is the heartbeat of 1.
func beatTo(to int) api.Msg { return api.Msg{Kind: api.BeatAsk, From: 1, To: to, Index: 1} }

// calm has a member's node hear of the controller, so that it does not stand.
func (r *rig) calm() {
	r.t.Helper()
	wantMsgs(r.t, r.feed())
}

// E2, E5: it beats Beat ticks behind its last beat, also if that could not be told.
func TestBeatTimes(t *testing.T) {
	r := rigged(t, 1, config(1, 2, 3), 1)
	r.term = 1
	wantMsgs(t, r.tick(0))
	r.calm()
	wantMsgs(t, r.tick(4))
	wantMsgs(t, r.tick(5), beatTo(2))
	wantMsgs(t, r.tick(5))
	r.calm()
	wantMsgs(t, r.tick(9))
	wantMsgs(t, r.tick(13), beatTo(2))
	r.calm()
	wantMsgs(t, r.tick(17))
	wantMsgs(t, r.tick(18), beatTo(2))
	// Behind a time that goes back it waits.
	r.tick(-50)
	r.now = 18
	r.calm()
	wantMsgs(t, r.tick(22))
	wantMsgs(t, r.tick(23), beatTo(2))
}

// E2: a follower asks at once, then each Beat ticks, by rising partitions.
func TestFollowersAsk(t *testing.T) {
	r := member(t)
	r.feed(append(ups(2, 3), register(1, 1), unfence(1, 1), api.Meta{Kind: meta.Topic, Name: "offsets", A: 3, B: 3, C: 1})...)
	// 1: 1 2 3; 2: 2 3 1; 3: 3 1 2.
	wantMsgs(t, r.tick(1), asks(2, 2, 1, 1), asks(3, 3, 2, 1))
	wantMsgs(t, r.tick(4))
	r.calm()
	wantMsgs(t, r.tick(5), beatTo(2))
	wantMsgs(t, r.tick(6), asks(2, 2, 1, 2), asks(3, 3, 2, 2))
	wantMsgs(t, r.tick(6))
	wantMsgs(t, r.tick(9))
	r.calm()
	wantMsgs(t, r.tick(11), beatTo(2), asks(2, 2, 1, 3), asks(3, 3, 2, 3))
}

// E2: a follower that took an answer by which there may be more asks at the next tick.
func TestFollowersAskAgain(t *testing.T) {
	r := member(t)
	r.feed(append(ups(1, 2), register(3, 1), unfence(3, 1), api.Meta{Kind: meta.Topic, Name: "offsets", A: 2, B: 2, C: 1})...)
	// 1: 1 2; 2: 2 3. And so 1 follows in neither: it is moved to the second.
	r.feed(api.Meta{Kind: meta.Move, A: 2, List: l(2, 1)})
	number := 0
	last, offset := -1, 0
	now := 0
	wantAsk := func(after int, isThere bool) {
		t.Helper()
		now += after
		r.calm()
		var got []api.Msg
		for _, m := range r.tick(now) {
			if m.Kind == api.FetchAsk {
				got = append(got, m)
			}
		}
		if !isThere {
			wantMsgs(t, got)
			return
		}
		number++
		m := asks(2, 2, 1, number)
		m.Offset, m.Last = offset, last
		wantMsgs(t, got, m)
	}
	tell := func(m api.Msg) {
		t.Helper()
		m.Kind, m.From, m.Part, m.Epoch, m.Pid, m.PidEpoch, m.Id = api.FetchTell, 2, 2, 1, 1, 1, number+m.Id
		wantMsgs(t, r.step(m))
	}
	wantAsk(1, true)
	wantAsk(0, false)
	// Nothing new.
	tell(api.Msg{})
	wantAsk(0, false)
	wantAsk(4, false)
	wantAsk(1, true)
	// What it takes.
	tell(api.Msg{High: 1, Batches: []api.Batch{at(0, 1, batch("x"))}})
	last, offset = 1, 1
	wantAsk(0, true)
	wantAsk(4, false)
	// What it did not ask for.
	tell(api.Msg{Id: 1, High: 1, Batches: []api.Batch{at(1, 1, batch("x"))}})
	tell(api.Msg{Id: -1, Err: api.ErrLeader})
	wantAsk(0, false)
	wantAsk(1, true)
	// Errors, of which the follower knows what to do, or not.
	for _, e := range []api.Errno{api.ErrFenced, api.ErrNewer, api.ErrLeader, api.ErrArg, api.ErrFull, api.ErrState} {
		tell(api.Msg{Err: e})
		if e == api.ErrState {
			// Take tells the answer's error, and that is taken for its own.
			wantAsk(0, false)
			wantAsk(5, true)
			continue
		}
		wantAsk(0, true)
	}
	// Batches that it cannot take are an answer, too.
	tell(api.Msg{Batches: []api.Batch{at(9, 1, batch("x"))}})
	wantAsk(0, true)
	tell(api.Msg{Err: api.ErrRange, Start: 4, Text: "no table"})
	wantAsk(0, true)
	tell(api.Msg{Err: api.ErrOrder, Last: -1, Index: 0})
	last, offset = -1, 0
	wantAsk(0, true)
	tell(api.Msg{Err: api.ErrRange, Start: 4, Text: dedup.New().Keep()})
	m := asks(2, 2, 1, number+1)
	m.Offset, m.Start = 4, 4
	wantMsgs(t, r.tick(now)[:1], m)
}

// E2: a new follower of a partition asks at once, whatever the one ahead of it asked.
func TestNewFollowersAsk(t *testing.T) {
	r := member(t)
	r.feed(append(ups(2, 3, 1), api.Meta{Kind: meta.Topic, Name: "offsets", A: 2, B: 3, C: 1})...)
	wantMsgs(t, r.tick(1), asks(2, 2, 1, 1))
	r.feed(fence(2, 1))
	m := asks(2, 3, 2, 1)
	m.Epoch = 2
	wantMsgs(t, r.tick(1), m)
	wantMsgs(t, r.tick(2))
	// Of one without a leader nothing is asked.
	r.feed(fence(3, 1), fence(1, 1))
	r.calm()
	for now := 3; now < 12; now++ {
		for _, m := range r.tick(now) {
			if m.Kind == api.FetchAsk {
				t.Fatal(show(l1(m)))
			}
		}
	}
	r.calm()
	r.feed(unfence(3, 1))
	if r.part(2).Leader != 0 {
		t.Fatal("who leads is", r.part(2).Leader)
	}
	r.feed(unfence(2, 1))
}

// E5: with the heartbeat leaders' wishes are told to the controller, by rising partitions.
func TestWishesOfLeaders(t *testing.T) {
	r := member(t)
	r.feed(append(ups(1, 2, 3), api.Meta{Kind: meta.Topic, Name: "offsets", A: 4, B: 3, C: 1})...)
	// 1 leads 1 and 4.
	for now := 1; now < 20; now++ {
		r.calm()
		for _, m := range r.tick(now) {
			if m.Kind == api.AlterAsk {
				t.Fatal(now, show(l1(m)))
			}
		}
	}
	r.now = 20
	r.step(fetch(2, 4, 1, 0, -1))
	r.calm()
	wish := func(part int, isr ...int) api.Msg {
		return api.Msg{Kind: api.AlterAsk, From: 1, To: 2, Part: part, Epoch: 1, Offset: 1, Ints: isr}
	}
	wantBeat := func(now int, want ...api.Msg) {
		t.Helper()
		var got []api.Msg
		for _, m := range r.tick(now) {
			if m.Kind != api.FetchAsk {
				got = append(got, m)
			}
		}
		wantMsgs(t, got, want...)
	}
	wantBeat(20, beatTo(2), wish(1, 1), wish(4, 1, 2))
	wantBeat(24)
	r.calm()
	wantBeat(25, beatTo(2), wish(1, 1), wish(4, 1, 2))
}

// E5: without a controller that is known nothing is told, and no wish is asked.
func TestNoHint(t *testing.T) {
	r := member(t)
	r.feed(append(ups(1, 2, 3), api.Meta{Kind: meta.Topic, Name: "offsets", A: 1, B: 2, C: 1})...)
	r.calm()
	wantMsgs(t, r.tick(1))
	// It stands: now it knows of nobody; and the beat is due, as a wish to drop 2 would be.
	for _, m := range r.tick(30) {
		if m.Kind != api.VoteAsk {
			t.Fatal(show(l1(m)))
		}
	}
	r.step(fetch(2, 1, 1, 1, 1))
	r.term = 3
	m := api.Msg{Kind: api.AppendAsk, From: 2, Term: 3, Index: r.end, Last: 1, High: r.end}
	r.step(m)
	wantMsgs(t, r.tick(35), beatTo(2))
}

// E5: what a leader that controls wishes is proposed at once, without a message.
func TestOwnWishes(t *testing.T) {
	r := controller(t)
	r.comes(1, 1)
	r.comes(2, 1)
	r.step(client(topic("offsets", 1, 2)))
	r.agree()
	r.tick(29)
	r.wantProposed()
	list := r.tick(34)
	r.wantProposed(api.Meta{Kind: meta.Alter, A: 1, B: 1, C: 1, D: 1, List: l(1)})
	for _, m := range list {
		if m.Kind != api.AppendAsk {
			t.Fatal(show(list))
		}
	}
	// It is not held back.
	r.tick(39)
	r.wantProposed(api.Meta{Kind: meta.Alter, A: 1, B: 1, C: 1, D: 1, List: l(1)})
}

// E5: what the controller tells itself of its own life is as others tell it.
func TestOwnBeats(t *testing.T) {
	r := controls(t, config(1, 2, 3))
	wantBeat := func(now int, want ...api.Meta) {
		t.Helper()
		for _, m := range r.tick(now) {
			if m.Kind != api.AppendAsk {
				t.Fatal(show(l1(m)))
			}
		}
		r.wantProposed(want...)
	}
	// It beat at 0 and at 9.
	wantBeat(13)
	wantBeat(14, register(1, 1))
	r.agree()
	wantBeat(18)
	wantBeat(19, unfence(1, 1))
	r.agree()
	wantBeat(24)
	r.step(beatOf(1, 2))
	r.agree()
	// A life that is put off is of no use any more.
	wantBeat(29)
}

// saved is what a log would begin with.
func saved(b *broker.Broker, part int) int { return b.Log(part).Saved() }

// E5: how far partitions are committed is kept with each beat, also without a controller.
func TestHighIsSaved(t *testing.T) {
	r := member(t)
	r.feed(append(ups(1, 2, 3), api.Meta{Kind: meta.Topic, Name: "offsets", A: 3, B: 3, C: 1})...)
	// 1 is led by 1, 2 by 2, 3 by 3.
	r.tick(1)
	wantSaved := func(lead, follow int) {
		t.Helper()
		if a, b := saved(r.b, 1), saved(r.b, 2); a != lead || b != follow {
			t.Fatal("kept are", a, "of what it leads and", b, "of what it follows, not", lead, follow)
		}
	}
	take := func(id, high int) {
		t.Helper()
		wantMsgs(t, r.step(api.Msg{Kind: api.FetchTell, From: 2, Part: 2, Epoch: 1, Pid: 1, PidEpoch: 1, Id: id, High: high, Batches: []api.Batch{at(high-1, 1, batch("x"))}}))
	}
	take(1, 1)
	wantSaved(0, 0)
	r.calm()
	r.tick(4)
	wantSaved(0, 0)
	r.tick(5)
	// The coordinator's first record waits for 2 and 3.
	wantSaved(0, 1)
	r.step(fetch(2, 1, 1, 1, 1))
	r.step(fetch(3, 1, 1, 1, 1))
	if r.b.High(1) != 1 {
		t.Fatal("High is", r.b.High(1))
	}
	take(2, 2)
	// It stands: nobody controls.
	r.tick(9)
	wantSaved(0, 1)
	r.tick(40)
	wantSaved(1, 2)
}

// E5: leaders' are kept ahead of followers'; an error is passed over.
func TestHighIsSavedOnFullDisk(t *testing.T) {
	for _, room := range l(0, 4, 8) {
		r := member(t)
		r.feed(append(ups(2, 1), api.Meta{Kind: meta.Topic, Name: "offsets", A: 3, B: 2, C: 1})...)
		// 1: 1 2; 2: 2 1; 3: 1 2.
		r.tick(1)
		r.step(fetch(2, 1, 1, 1, 1))
		r.wantNothing(produce(3, 0, batch("x")))
		r.step(fetch(2, 3, 1, 1, 1))
		r.step(api.Msg{Kind: api.FetchTell, From: 2, Part: 2, Epoch: 1, Pid: 1, PidEpoch: 1, Id: 1, High: 1, Batches: []api.Batch{at(0, 1, batch("x"))}})
		for part := 1; part <= 3; part++ {
			if r.b.High(part) != 1 || saved(r.b, part) != 0 {
				t.Fatal("of", part, "High is", r.b.High(part), "kept is", saved(r.b, part))
			}
		}
		must(t, r.d.Append("stuff", string(make([]byte, r.d.Free()-room))))
		r.tick(5)
		got := [3]int{saved(r.b, 1), saved(r.b, 2), saved(r.b, 3)}
		want := map[int][3]int{0: {}, 4: {1, 0, 0}, 8: {1, 0, 1}}[room]
		if got != want {
			t.Error("with room for", room, "kept are", got, "want", want)
		}
	}
}

// E2: all that is to be sent, in its order: the node's, duties', beats', followers'.
func TestTickInOrder(t *testing.T) {
	c := config(1, 2, 3)
	c.Session = 20
	r := controls(t, c)
	for _, id := range l(1, 2, 3) {
		r.comes(id, 1)
	}
	r.step(client(api.Msg{Kind: api.AdminAsk, Index: meta.Topic, Name: "offsets", High: 2, Seq: 2, Pid: 1}))
	r.agree()
	// 1: 1 2; 2: 2 3. The controller follows the second when it is moved.
	r.step(client(api.Msg{Kind: api.AdminAsk, Index: meta.Move, High: 2, Ints: l(2, 1)}))
	r.agree()
	r.tick(14)
	r.agree()
	r.now = 34
	r.step(beatOf(2, 1))
	end := r.end
	list := r.tick(34)
	r.wantProposed(fence(1, 1), fence(3, 1), api.Meta{Kind: meta.Alter, A: 1, B: 1, C: 1, D: 1, List: l(1)})
	var kinds, ends []int
	for _, m := range list {
		kinds = append(kinds, m.Kind)
		ends = append(ends, m.Index+len(m.Entries)-end)
	}
	if len(list) != 9 {
		t.Fatal(show(list))
	}
	for i, m := range list[:8] {
		if m.Kind != api.AppendAsk || m.To != 2+i%2 || i%2 == 0 && ends[i] != i/2 {
			t.Fatal(i, show(list))
		}
	}
	if kinds[8] != api.FetchAsk || list[8].To != 2 || list[8].Part != 2 {
		t.Fatal(show(list))
	}
}

// E2: what is agreed on is applied ahead of duties and beats.
func TestTickSettlesFirst(t *testing.T) {
	r := rigged(t, 1, config(1), 1)
	wantMsgs(t, r.tick(0))
	wantApplied := func(applied int, up ...int) {
		t.Helper()
		if im := r.b.Image(); im.Applied() != applied || len(im.Up()) != len(up) {
			t.Fatal("applied are", im.Applied(), "up are", im.Up())
		}
	}
	wantMsgs(t, r.tick(9))
	wantApplied(0)
	wantMsgs(t, r.tick(10))
	wantMsgs(t, r.tick(13))
	wantApplied(0)
	wantMsgs(t, r.tick(14))
	wantApplied(0)
	wantMsgs(t, r.tick(15))
	wantApplied(1)
	wantMsgs(t, r.tick(19))
	wantMsgs(t, r.tick(20))
	wantApplied(2, 1)
}

// E2: the coordinator lets members go that were silent for a session.
func TestCoordinatorTicks(t *testing.T) {
	r := leading(t)
	r.wantTell(join("g", 2), api.OK, api.Msg{Index: 1, Pid: 1, Seq: 1, Ints: l(2)})
	r.wantTell(join("g", 2), api.OK, api.Msg{Index: 1, Pid: 2, Seq: 2})
	beat := func(id, gen int) api.Msg {
		return api.Msg{Kind: api.GroupAsk, Index: 7, Name: "g", Pid: id, Seq: gen}
	}
	for r.now < 49 {
		wantMsgs(t, r.tick(r.now+1))
		if r.now == 40 {
			r.wantTell(beat(1, 2), api.OK, api.Msg{Index: 7, Pid: 1, Seq: 2})
		}
	}
	r.wantTell(beat(3, 2), api.ErrMember, api.Msg{Index: 7})
	r.wantTell(beat(2, 1), api.ErrGen, api.Msg{Index: 7})
	wantMsgs(t, r.tick(50))
	r.wantTell(beat(2, 2), api.ErrMember, api.Msg{Index: 7})
	r.wantTell(beat(1, 3), api.OK, api.Msg{Index: 7, Pid: 1, Seq: 3})
}
