package broker_test

import (
	"testing"

	"logboom/api"
	"logboom/dedup"
	"logboom/disk"
	"logboom/meta"
)

// serving is a member that is up with 2 and 3: it leads 1 (alone), 2 and 3 (with 2), has nothing of 4, and follows 5, which 3 leads.
func serving(t *testing.T) *rig {
	t.Helper()
	r := member(t)
	r.feed(append(ups(1, 2, 3), makes("offsets", 1, 1), makes("t", 1, 2), makes("u", 3, 2))...)
	return r
}

// fetched is a fetch's answer.
func (r *rig) fetched(m api.Msg, high, turn int, list ...api.Batch) api.Msg {
	return api.Msg{Kind: api.FetchTell, From: r.id, To: m.From, Part: m.Part, Epoch: m.Epoch, High: high, Index: turn, Batches: list}
}

// at is a batch as it lies in a log.
func at(base, epoch int, b api.Batch) api.Batch {
	b.Base, b.Epoch = base, epoch
	return b
}

// E3, E6: what is produced is acknowledged as soon as all of it is committed.
func TestProduce(t *testing.T) {
	r := serving(t)
	b := batch("x", "y")
	r.wantNothing(produce(2, 0, b))
	if n, h := r.b.Log(2).Next(), r.b.High(2); n != 2 || h != 0 {
		t.Fatal("the log ends at", n, "High is", h)
	}
	wantMsgs(t, r.tick(1), api.Msg{Kind: api.FetchAsk, From: 1, To: 3, Part: 5, Epoch: 1, Last: -1, Pid: 1, PidEpoch: 1, Id: 1})
	m := fetch(2, 2, 1, 0, -1)
	wantMsgs(t, r.step(m), r.fetched(m, 0, 0, at(0, 1, b)))
	m = fetch(2, 2, 1, 1, 1)
	wantMsgs(t, r.step(m), r.fetched(m, 1, 0, at(0, 1, b)))
	m = fetch(2, 2, 1, 2, 1)
	wantMsgs(t, r.step(m), r.fetched(m, 2, 0), r.tells(api.ProduceTell, api.OK, api.Msg{Part: 2}))
	wantMsgs(t, r.step(m), r.fetched(m, 2, 0))
	// One that lies there, and is committed, is acknowledged where it lies.
	p := api.Batch{Pid: 5, Records: b.Records}
	r.wantNothing(produce(2, 1, p))
	r.wantNothing(produce(2, 1, p))
	m = fetch(2, 2, 1, 4, 1)
	told := r.tells(api.ProduceTell, api.OK, api.Msg{Part: 2, Offset: 2})
	wantMsgs(t, r.step(m), r.fetched(m, 4, 0), told, told)
	r.wantTell(produce(2, 1, p), api.OK, api.Msg{Offset: 2})
	if n := r.b.Log(2).Next(); n != 4 {
		t.Error("the log ends at", n)
	}
}

// E3: what a batch is refused with, the first that is so.
func TestProduceIsRefused(t *testing.T) {
	r := serving(t)
	b := batch("x")
	for _, part := range l(0, 1, 2, 4, 5, 6, 17, api.MaxOffset) {
		r.wantTell(produce(part, 9), api.ErrArg, api.Msg{})
		r.wantTell(produce(part, 0, b, b), api.ErrArg, api.Msg{})
	}
	for _, epoch := range l(0, 1, 9) {
		r.wantTell(produce(1, epoch, b), api.ErrArg, api.Msg{})
		for part, last := range map[int]int{-1: 0, 0: 0, 4: 2, 5: 3, 6: 0, 16: 0, 17: 0, api.MaxOffset: 0} {
			r.wantTell(produce(part, epoch, b), api.ErrLeader, api.Msg{Last: last})
		}
	}
	for _, epoch := range l(2, api.MaxOffset) {
		r.wantTell(produce(2, epoch, b), api.ErrNewer, api.Msg{})
	}
	r.wantTell(produce(2, -1, b), api.ErrFenced, api.Msg{})
	r.wantTell(produce(2, 0, api.Batch{Pid: 5, Seq: 1, Records: b.Records}), api.ErrOrder, api.Msg{})
	if n := r.b.Log(2).Next(); n != 0 {
		t.Error("the log ends at", n)
	}
}

// E3: an elder epoch is told ahead of what the leader would say; without one it says that.
func TestProduceOfElderEpochs(t *testing.T) {
	r := member(t)
	r.feed(append(ups(1), makes("offsets", 1, 1), makes("t", 1, 1))...)
	r.feed(api.Meta{Kind: meta.Fence, A: 1, B: 1}, api.Meta{Kind: meta.Unfence, A: 1, B: 1})
	gap := api.Batch{Pid: 5, Seq: 1, Records: batch("x").Records}
	for epoch, want := range map[int]api.Errno{0: api.ErrOrder, -1: api.ErrFenced, 1: api.ErrFenced, 2: api.ErrFenced, 3: api.ErrOrder, 4: api.ErrNewer} {
		r.wantTell(produce(2, epoch, gap), want, api.Msg{})
	}
	r.wantTell(produce(2, 3, batch("x")), api.OK, api.Msg{})
	r.wantTell(produce(2, 0, batch("x")), api.OK, api.Msg{Offset: 1})
}

// E3: the leader's own errors.
func TestProduceOfTooFew(t *testing.T) {
	r := member(t)
	r.feed(append(ups(1, 2), makes("offsets", 1, 1), api.Meta{Kind: meta.Topic, Name: "t", A: 1, B: 2, C: 2})...)
	r.wantNothing(produce(2, 0, batch("x")))
	r.feed(api.Meta{Kind: meta.Fence, A: 2, B: 1})
	r.wantTell(produce(2, 0, batch("x")), api.ErrInsync, api.Msg{})
	r.wantTell(produce(2, 9, batch("x")), api.ErrNewer, api.Msg{})
}

// E3: without room nothing is taken.
func TestProduceOnFullDisk(t *testing.T) {
	r := leading(t)
	fill(t, r.d)
	r.wantTell(produce(2, 0, batch("x")), api.ErrFull, api.Msg{})
	if n := r.b.Log(2).Next(); n != 0 {
		t.Error("the log ends at", n)
	}
	must(t, r.d.Remove("stuff"))
	r.wantTell(produce(2, 0, batch("x")), api.OK, api.Msg{})
}

// fill leaves a disk no room.
func fill(t *testing.T, d *disk.Disk) {
	t.Helper()
	must(t, d.Append("stuff", string(make([]byte, d.Free()))))
}

// read is a client's.
func read(part, offset int) api.Msg {
	return api.Msg{Kind: api.ReadAsk, Part: part, Offset: offset}
}

// E3, E6: a read waits until all in sync have seen a turn behind it, and tells what there is then.
func TestReadWaits(t *testing.T) {
	r := serving(t)
	x, y := batch("x", "x"), batch("y")
	r.wantNothing(produce(2, 0, x))
	r.wantNothing(read(2, 0))
	r.wantNothing(read(2, 3))
	r.wantNothing(read(2, 1))
	r.wantNothing(produce(2, 0, y))
	m := fetch(2, 2, 1, 0, -1)
	wantMsgs(t, r.step(m), r.fetched(m, 0, 3, at(0, 1, x), at(2, 1, y)))
	m = fetch(2, 2, 1, 0, -1)
	m.Seq = 1
	read0 := r.tells(api.ReadTell, api.OK, api.Msg{Part: 2})
	wantMsgs(t, r.step(m), r.fetched(m, 0, 3, at(0, 1, x), at(2, 1, y)), read0)
	// The second and the third turn are seen at once, and all is committed.
	m = fetch(2, 2, 1, 3, 1)
	m.Seq = 3
	wantMsgs(t, r.step(m), r.fetched(m, 3, 3),
		r.tells(api.ProduceTell, api.OK, api.Msg{Part: 2}),
		r.tells(api.ReadTell, api.OK, api.Msg{Part: 2, Offset: 3, High: 3}),
		r.tells(api.ReadTell, api.OK, api.Msg{Part: 2, Offset: 1, High: 3, Batches: []api.Batch{at(0, 1, x)}}),
		r.tells(api.ProduceTell, api.OK, api.Msg{Part: 2, Offset: 2}))
}

// E3: what is read of one that is alone is told at once: one batch, from where the log starts to what is committed.
func TestRead(t *testing.T) {
	r := leading(t)
	x, y := batch("x", "x"), batch("y")
	r.wantTell(produce(2, 0, x), api.OK, api.Msg{})
	r.wantTell(produce(2, 0, y), api.OK, api.Msg{Offset: 2})
	for offset, b := range map[int]api.Batch{0: at(0, 1, x), 1: at(0, 1, x), 2: at(2, 1, y)} {
		r.wantTell(read(2, offset), api.OK, api.Msg{Offset: offset, High: 3, Batches: []api.Batch{b}})
	}
	r.wantTell(read(2, 3), api.OK, api.Msg{Offset: 3, High: 3})
	for _, offset := range l(-1, 4, api.MaxOffset) {
		r.wantTell(read(2, offset), api.ErrRange, api.Msg{})
	}
	r.wantTell(api.Msg{Kind: api.DeleteAsk, Part: 2, Offset: 2}, api.OK, api.Msg{Offset: 2})
	r.wantTell(read(2, 1), api.ErrRange, api.Msg{})
	r.wantTell(read(2, 2), api.OK, api.Msg{Offset: 2, High: 3, Start: 2, Batches: []api.Batch{at(2, 1, y)}})
	// The epoch, and whatever else there may be, is not asked.
	m := read(2, 2)
	m.Epoch, m.Pid, m.Name, m.Batches = 9, 4, "n", []api.Batch{y, y}
	r.wantTell(m, api.OK, api.Msg{Offset: 2, High: 3, Start: 2, Batches: []api.Batch{at(2, 1, y)}})
}

// E3: of whom nothing is read.
func TestReadIsRefused(t *testing.T) {
	r := serving(t)
	r.wantTell(read(1, 0), api.ErrArg, api.Msg{})
	for part, last := range map[int]int{-1: 0, 0: 0, 4: 2, 5: 3, 6: 0, 16: 0, 17: 0, api.MaxOffset: 0} {
		r.wantTell(read(part, 0), api.ErrLeader, api.Msg{Last: last})
	}
	// Part 1 is refused by those, too, who do not lead it.
	wantMsgs(t, rigged(t, 1, config(1, 2), 1).step(client(read(1, 0))), r.tells(api.ReadTell, api.ErrArg, api.Msg{Part: 1}))
}

// deletes is a client's.
func deletes(part, offset int) api.Msg {
	return api.Msg{Kind: api.DeleteAsk, Part: part, Offset: offset}
}

// E3, E6: a deletion is told when all in sync have deleted so far.
func TestDeleteWaits(t *testing.T) {
	r := serving(t)
	r.wantNothing(produce(2, 0, batch("x", "x")))
	r.wantNothing(produce(2, 0, batch("y")))
	r.wantTell(deletes(2, 1), api.ErrRange, api.Msg{})
	m := fetch(2, 2, 1, 3, 1)
	if list := r.step(m); len(list) != 3 {
		t.Fatal(show(list))
	}
	r.wantNothing(deletes(2, 2))
	r.wantNothing(deletes(2, 3))
	if n := r.b.Log(2).Start(); n != 3 {
		t.Fatal("the log starts at", n)
	}
	told := r.fetched(m, 3, 0)
	told.Start = 3
	wantMsgs(t, r.step(m), told)
	m.Start = 2
	wantMsgs(t, r.step(m), told, r.tells(api.DeleteTell, api.OK, api.Msg{Part: 2, Offset: 2}))
	wantMsgs(t, r.step(m), told)
	m.Start = 3
	wantMsgs(t, r.step(m), told, r.tells(api.DeleteTell, api.OK, api.Msg{Part: 2, Offset: 3}))
}

// E3: what a deletion is refused with: that nobody leads is told ahead of that it may not be.
func TestDeleteIsRefused(t *testing.T) {
	r := serving(t)
	for _, offset := range l(-1, 0, 5) {
		r.wantTell(deletes(1, offset), api.ErrArg, api.Msg{})
		for part, last := range map[int]int{-1: 0, 0: 0, 4: 2, 5: 3, 6: 0, 16: 0, 17: 0, api.MaxOffset: 0} {
			r.wantTell(deletes(part, offset), api.ErrLeader, api.Msg{Last: last})
		}
	}
	for _, offset := range l(-1, 1, api.MaxOffset) {
		r.wantTell(deletes(2, offset), api.ErrRange, api.Msg{})
	}
	r.feed(api.Meta{Kind: meta.Register, A: 1, B: 9})
	r.wantTell(deletes(1, 0), api.ErrLeader, api.Msg{})
	r.wantTell(deletes(2, 0), api.ErrLeader, api.Msg{Last: 2})
	x := leading(t)
	x.wantTell(produce(2, 0, batch("x")), api.OK, api.Msg{})
	fill(t, x.d)
	x.wantTell(deletes(2, 1), api.ErrFull, api.Msg{})
	x.wantTell(deletes(2, 2), api.ErrRange, api.Msg{})
}

// E3: who fetches from whom does not lead is told just that.
func TestFetch(t *testing.T) {
	r := serving(t)
	for _, part := range l(-1, 0, 4, 5, 6, 16, 17, api.MaxOffset) {
		m := fetch(2, part, 1, 0, -1)
		m.Id, m.Pid, m.PidEpoch = 3, 4, 5
		wantMsgs(t, r.step(m), api.Msg{Kind: api.FetchTell, From: 1, To: 2, Id: 3, Part: part, Err: api.ErrLeader})
	}
	m := fetch(2, 2, 1, 0, -1)
	m.Id, m.Pid, m.PidEpoch = 3, 4, 5
	told := r.fetched(m, 0, 0)
	told.Id, told.Pid, told.PidEpoch = 3, 4, 5
	wantMsgs(t, r.step(m), told)
	for epoch, e := range map[int]api.Errno{0: api.ErrFenced, 2: api.ErrNewer} {
		m.Epoch = epoch
		told.Epoch, told.Err = 1, e
		wantMsgs(t, r.step(m), told)
	}
}

// E3: a follower takes what it asked for, and nothing else.
func TestFetchTell(t *testing.T) {
	r := serving(t)
	ask := r.tick(1)[0]
	x := at(0, 1, batch("x"))
	tell := api.Msg{Kind: api.FetchTell, From: 3, Part: 5, Epoch: 1, Pid: ask.Pid, PidEpoch: ask.PidEpoch, Id: ask.Id, High: 1, Batches: []api.Batch{x}}
	for _, wrong := range []func(*api.Msg){
		func(m *api.Msg) { m.From = 2 },
		func(m *api.Msg) { m.Part = 4 },
		func(m *api.Msg) { m.Part = 2 },
		func(m *api.Msg) { m.Part = 17 },
		func(m *api.Msg) { m.Part = -1 },
		func(m *api.Msg) { m.Epoch = 2 },
		func(m *api.Msg) { m.Pid = 2 },
		func(m *api.Msg) { m.PidEpoch = 2 },
		func(m *api.Msg) { m.Id = 0 },
		func(m *api.Msg) { m.Id = 2 },
	} {
		m := tell
		wrong(&m)
		wantMsgs(t, r.step(m))
		if n, h := r.b.Log(5).Next(), r.b.High(5); n != 0 || h != 0 {
			t.Fatal("of", show(l1(m)), "it took", n, h)
		}
	}
	wantMsgs(t, r.step(tell))
	if n, h := r.b.Log(5).Next(), r.b.High(5); n != 1 || h != 1 {
		t.Fatal("it took", n, h)
	}
	wantMsgs(t, r.step(tell))
	next := r.tick(2)
	wantMsgs(t, next, api.Msg{Kind: api.FetchAsk, From: 1, To: 3, Part: 5, Epoch: 1, Offset: 1, Last: 1, Pid: 1, PidEpoch: 1, Id: 2})
	wantMsgs(t, r.step(api.Msg{Kind: api.FetchTell, From: 3, Part: 5, Epoch: 1, Pid: 1, PidEpoch: 1, Id: 2, Err: api.ErrRange, Start: 7, Text: dedup.New().Keep()}))
	if s, n, h := r.b.Log(5).Start(), r.b.Log(5).Next(), r.b.High(5); s != 7 || n != 7 || h != 7 {
		t.Error("it begins at", s, n, h)
	}
}

// join is a client's of a group.
func join(name string, parts ...int) api.Msg {
	return api.Msg{Kind: api.GroupAsk, Index: 1, Name: name, Ints: parts}
}

// E3: groups are asked of the coordinator.
func TestGroups(t *testing.T) {
	r := leading(t)
	r.wantTell(join("g", 2), api.OK, api.Msg{Index: 1, Pid: 1, Seq: 1, Ints: l(2)})
	r.wantTell(api.Msg{Kind: api.GroupAsk, Index: 7, Name: "g", Pid: 1, Seq: 2}, api.ErrGen, api.Msg{Index: 7})
	r.wantTell(api.Msg{Kind: api.GroupAsk, Index: 5, Name: "g"}, api.ErrArg, api.Msg{Index: 5})
	r.wantTell(read(1, 0), api.ErrArg, api.Msg{})
}

// E3: without a coordinator it is told who leads the offsets' partition.
func TestNoCoordinator(t *testing.T) {
	r := member(t)
	r.wantTell(join("g", 2), api.ErrCoord, api.Msg{})
	r.feed(append(ups(2, 3), makes("offsets", 1, 2))...)
	for _, kind := range l(0, 1, 5, 7) {
		r.wantTell(api.Msg{Kind: api.GroupAsk, Index: kind, Name: "g", Part: 3}, api.ErrCoord, api.Msg{Last: 2})
	}
	r.feed(api.Meta{Kind: meta.Fence, A: 2, B: 1})
	r.wantTell(join("g", 2), api.ErrCoord, api.Msg{Last: 3})
	r.feed(api.Meta{Kind: meta.Fence, A: 3, B: 1})
	r.wantTell(join("g", 2), api.ErrCoord, api.Msg{})
}

// E3: what the image tells of topics and of partitions, whoever leads.
func TestInfo(t *testing.T) {
	r := serving(t)
	info := func(name string, part int) api.Msg { return api.Msg{Kind: api.InfoAsk, Name: name, Part: part} }
	for name, ids := range map[string][]int{"offsets": l(1), "t": l(2), "u": l(3, 4, 5)} {
		for _, part := range l(0, 2, 99) {
			r.wantTell(info(name, part), api.OK, api.Msg{Ints: ids})
		}
	}
	for _, name := range []string{"v", "T", "uu", " "} {
		r.wantTell(info(name, 2), api.ErrNone, api.Msg{})
	}
	r.feed(api.Meta{Kind: meta.Fence, A: 3, B: 1}, api.Meta{Kind: meta.Fence, A: 1, B: 1})
	for _, m := range []api.Msg{
		{Part: 1, Epoch: 2, Last: 0, Offset: 2, Ints: l(1)},
		{Part: 2, Epoch: 2, Last: 2, Offset: 2, Ints: l(2)},
		{Part: 4, Epoch: 1, Last: 2, Offset: 2, Ints: l(2)},
		{Part: 5, Epoch: 3, Last: 0, Offset: 3, Ints: l(1)},
	} {
		r.wantTell(info("", m.Part), api.OK, m)
	}
	for _, part := range l(-1, 0, 6, 16, 17, api.MaxOffset) {
		r.wantTell(info("", part), api.ErrNone, api.Msg{})
	}
	r.wantTell(info("u", 2), api.OK, api.Msg{Ints: l(3, 4, 5)})
}

// P3: what is told of the image is not its own.
func TestInfoIsCopied(t *testing.T) {
	r := serving(t)
	was := r.b.Image().Keep()
	r.ask(api.Msg{Kind: api.InfoAsk, Name: "u"}).Ints[0] = 9
	r.ask(api.Msg{Kind: api.InfoAsk, Part: 2}).Ints[0] = 9
	if r.b.Image().Keep() != was {
		t.Error("the image was changed")
	}
	r.wantTell(api.Msg{Kind: api.InfoAsk, Name: "u"}, api.OK, api.Msg{Ints: l(3, 4, 5)})
}

// P3: a batch that is handed in is not kept.
func TestBatchIsNotKept(t *testing.T) {
	r := serving(t)
	b := batch("x", "y")
	list := []api.Batch{b, batch("z")}
	m := client(produce(2, 0, list[:1]...))
	wantMsgs(t, r.step(m))
	b.Records[0].Value, list[0].Pid = "changed", 9
	f := fetch(2, 2, 1, 0, -1)
	wantMsgs(t, r.step(f), r.fetched(f, 0, 0, at(0, 1, batch("x", "y"))))
}

// E3: of all other kinds nothing is told, and nothing becomes.
func TestOtherKinds(t *testing.T) {
	r := leading(t)
	was := picture(r.d)
	for _, kind := range l(9, 10, 12, 14, 16, 18, 20, 22, 24, 26, 27, 28) {
		for _, part := range l(0, 1, 2) {
			m := api.Msg{Kind: kind, From: 101, Part: part, Epoch: 1, Index: meta.Pid, Name: "g", Ints: l(1), Batches: []api.Batch{batch("x")}}
			wantMsgs(t, r.step(m))
		}
	}
	if picture(r.d) != was {
		t.Error("the disk has", picture(r.d))
	}
}
