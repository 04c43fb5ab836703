package broker_test

import (
	"slices"
	"strings"
	"testing"

	"logboom/api"
	"logboom/meta"
	"logboom/wire"
)

// wantRoles asks which partitions it leads and which it follows, by what it asks when it asks all.
func (r *rig) wantRoles(leads, follows []int) {
	r.t.Helper()
	if got := r.b.Leads(); !slices.Equal(got, leads) {
		r.t.Fatal("it leads", got, "want", leads)
	}
	for part := 1; part <= 16; part++ {
		isFollower := r.b.High(part) >= 0 && !slices.Contains(leads, part)
		if isFollower != slices.Contains(follows, part) {
			r.t.Fatal("does it follow", part, "?", isFollower)
		}
	}
}

// E6: whom the image names, it leads; of which it is a replica, it follows; of others it has nothing.
func TestRoles(t *testing.T) {
	r := serving(t)
	r.wantRoles(l(1, 2, 3), l(5))
	for part := -1; part <= 17; part++ {
		isThere := part >= 1 && part <= 3 || part == 5
		if (r.b.Log(part) != nil) != isThere {
			t.Error("of", part, "is there a log:", !isThere)
		}
	}
	// Fenced it leads nothing, but follows.
	r.feed(fence(1, 1))
	r.wantRoles(nil, l(1, 2, 3, 5))
	r.feed(unfence(1, 1))
	r.wantRoles(l(1), l(2, 3, 5))
	// What it is no replica of any more is neither; its log stays.
	r.feed(api.Meta{Kind: meta.Move, A: 5, List: l(3)}, done(5))
	r.wantRoles(l(1), l(2, 3))
	if r.b.Log(5) == nil {
		t.Error("the log is gone")
	}
	r.feed(api.Meta{Kind: meta.Move, A: 4, List: l(1, 2)})
	r.wantRoles(l(1), l(2, 3, 4))
	r.feed(api.Meta{Kind: meta.Stay, A: 4})
	r.wantRoles(l(1), l(2, 3))
}

// E6: of what was so in elder, or in later, lives it makes nothing.
func TestRolesOfLives(t *testing.T) {
	r := member(t)
	records := append(ups(2, 3), register(1, 4), unfence(1, 4), api.Meta{Kind: meta.Topic, Name: "offsets", A: 3, B: 3, C: 1})
	r.feed(records...)
	r.wantRoles(nil, nil)
	if r.b.Log(1) != nil {
		t.Error("a log is opened")
	}
	r = rigged(t, 1, config(1, 2, 3), 4)
	r.term = 1
	r.feed(records...)
	r.wantRoles(l(1), l(2, 3))
	// It is put off by a life that nobody lives yet.
	r.feed(register(1, 5))
	r.wantRoles(nil, nil)
	r.feed(unfence(1, 5))
	r.wantRoles(nil, nil)
	// The next life of it takes nothing for so, until it is registered.
	r.d.Crash(nil)
	r.begin(config(1, 2, 3), 6)
	r.feed()
	r.wantRoles(nil, nil)
	if n := r.b.Image().Applied(); n != len(records)+2 {
		t.Fatal("applied are", n)
	}
	r.feed(register(1, 6))
	r.wantRoles(nil, l(1, 2, 3))
	r.feed(fence(2, 1), fence(3, 1), unfence(1, 6))
	r.wantRoles(nil, l(1, 2, 3))
}

// fenced is an image in which a broker leads that is not up: Load takes it.
func fenced(t *testing.T, records []api.Meta) string {
	t.Helper()
	im := meta.New()
	for _, x := range records {
		im.Apply(x)
	}
	body := im.Keep()[4:]
	up := wire.Int(1) + wire.Int(1) + wire.Int(1)
	down := wire.Int(1) + wire.Int(1) + wire.Int(0)
	if !strings.Contains(body, up) {
		t.Fatal("the broker 1 is not there")
	}
	body = strings.Replace(body, up, down, 1)
	return sealed(body)
}

// sealed is a text with its checksum ahead.
func sealed(s string) string {
	n := wire.Crc(s)
	return string([]byte{byte(n >> 24), byte(n >> 16), byte(n >> 8), byte(n)}) + s
}

// E6: one that is not up leads nothing, whatever the image says; nor does it follow itself.
func TestLeaderThatIsNotUp(t *testing.T) {
	r := member(t)
	text := fenced(t, append(ups(1, 2), makes("offsets", 1, 1), makes("t", 2, 2)))
	wantMsgs(t, r.step(api.Msg{Kind: api.SnapAsk, From: 2, Term: 1, Index: 9, Last: 1, Text: text}), api.Msg{Kind: api.SnapTell, From: 1, To: 2, Term: 1, Index: 9})
	if p := r.part(2); p.Leader != 1 || slices.Contains(r.b.Image().Up(), 1) {
		t.Fatalf("%+v", p)
	}
	r.wantRoles(nil, l(3))
	r.wantTell(produce(2, 0, batch("x")), api.ErrLeader, api.Msg{Last: 1})
	r.end = 9
	r.feed(unfence(1, 1))
	r.wantRoles(l(1, 2), l(3))
}

// E6: a leader stays as long as its epoch does, and learns what is new.
func TestLeaderLearns(t *testing.T) {
	r := serving(t)
	r.wantNothing(produce(2, 0, batch("x")))
	r.wantNothing(read(2, 1))
	r.now = 3
	// 2 is out of the set: what waited is committed, and read.
	wantMsgs(t, r.feed(fence(2, 1)), r.tells(api.ProduceTell, api.OK, api.Msg{Part: 2}),
		r.tells(api.ReadTell, api.OK, api.Msg{Part: 2, Offset: 1, High: 1}))
	if p := r.part(2); p.Epoch != 1 || p.Version != 2 {
		t.Fatalf("%+v", p)
	}
	r.wantTell(produce(2, 1, batch("x")), api.OK, api.Msg{Offset: 1})
}

// E6: replicas that a leader learns of late have from then on until they are behind: the state is told with the time.
func TestLeaderLearnsWhen(t *testing.T) {
	r := member(t)
	r.feed(append(ups(1, 2, 3), makes("offsets", 1, 1))...)
	r.now = 15
	r.feed(api.Meta{Kind: meta.Move, A: 1, List: l(1, 2)}, api.Meta{Kind: meta.Alter, A: 1, B: 1, C: 1, D: 2, List: l(1, 2)})
	wantWish := func(now int, want bool) {
		t.Helper()
		r.now = now - 1
		r.calm()
		list := r.tick(now)
		if got := slices.ContainsFunc(list, func(m api.Msg) bool { return m.Kind == api.AlterAsk }); got != want {
			t.Fatal(now, show(list))
		}
	}
	wantWish(20, false)
	wantWish(34, false)
	wantWish(39, true)
}

// E6: of a new epoch it is a new leader: what waited for the one ahead is answered with ErrLeader, also if the same broker leads.
func TestNewEpochs(t *testing.T) {
	r := serving(t)
	for _, m := range []api.Msg{produce(2, 0, batch("x")), read(3, 0), produce(3, 0, batch("y"))} {
		r.wantNothing(m)
	}
	told := func(kind, part int) api.Msg { return r.tells(kind, api.ErrLeader, api.Msg{Part: part}) }
	// 2 is led by 1 again, in the epoch 3; 3 is led by 2.
	list := r.feed(fence(1, 1), unfence(1, 1), api.Meta{Kind: meta.Alter, A: 2, B: 2, C: 2, D: 2, List: l(1, 2)}, api.Meta{Kind: meta.Prefer, A: 2})
	wantMsgs(t, list, told(api.ProduceTell, 2), told(api.ReadTell, 3), told(api.ProduceTell, 3))
	if p := r.part(2); p.Leader != 1 || p.Epoch != 3 {
		t.Fatalf("%+v", p)
	}
	r.wantRoles(l(1, 2), l(3, 5))
	r.wantTell(produce(2, 1, batch("x")), api.ErrFenced, api.Msg{})
	r.wantNothing(produce(2, 3, batch("z")))
	m := fetch(2, 2, 3, 2, 3)
	wantMsgs(t, r.step(m), r.fetched(m, 2, 0), r.tells(api.ProduceTell, api.OK, api.Msg{Part: 2, Offset: 1}))
}

// E6: a follower stays as long as its epoch and its leader do; each new one has a greater number than all that were made.
func TestFollowersAreMade(t *testing.T) {
	r := member(t)
	r.feed(append(ups(2, 3, 1), api.Meta{Kind: meta.Topic, Name: "offsets", A: 3, B: 3, C: 1})...)
	wantAsks := func(want ...[4]int) {
		t.Helper()
		r.calm()
		r.now += 5
		var got [][4]int
		for _, m := range r.tick(r.now) {
			if m.Kind == api.FetchAsk {
				got = append(got, [4]int{m.Part, m.To, m.PidEpoch, m.Id})
			}
		}
		r.calm()
		if !slices.Equal(got, want) {
			t.Fatal("it asks", got, "want", want)
		}
	}
	wantAsks([4]int{2, 2, 1, 1}, [4]int{3, 3, 2, 1})
	// Another version alone.
	r.feed(api.Meta{Kind: meta.Alter, A: 2, B: 2, C: 1, D: 1, List: l(2)})
	wantAsks([4]int{2, 2, 1, 2}, [4]int{3, 3, 2, 2})
	// Another leader.
	r.feed(fence(3, 1))
	if p := r.part(3); p.Leader != 1 {
		t.Fatalf("%+v", p)
	}
	wantAsks([4]int{2, 2, 1, 3})
	r.feed(unfence(3, 1), api.Meta{Kind: meta.Alter, A: 3, B: 1, C: 2, D: 2, List: l(3, 1, 2)}, api.Meta{Kind: meta.Prefer, A: 3})
	wantAsks([4]int{2, 2, 1, 4}, [4]int{3, 3, 3, 1})
	// No leader, then the same one: 2 alone is in sync.
	r.feed(fence(2, 1), unfence(2, 1))
	if p := r.part(2); p.Leader != 2 || p.Epoch != 3 {
		t.Fatalf("%+v", p)
	}
	wantAsks([4]int{2, 2, 4, 1}, [4]int{3, 3, 3, 2})
	r.feed(fence(2, 1))
	wantAsks([4]int{3, 3, 3, 3})
	r.feed(unfence(2, 1))
	// That without a leader was one, too.
	wantAsks([4]int{2, 2, 6, 1}, [4]int{3, 3, 3, 4})
}

// E6: where a store cannot be opened there is neither leader nor follower; it is tried again when more was applied.
func TestSpoiltStores(t *testing.T) {
	r := member(t)
	for _, name := range []string{"part-1.meta", "part-2.meta", "part-5.meta"} {
		must(t, r.d.Append(name, "no numbers"))
	}
	r.feed(append(ups(1, 2, 3), makes("offsets", 1, 1), makes("t", 1, 2), makes("u", 3, 2))...)
	wantLogs := func(want ...int) {
		t.Helper()
		for part := 1; part <= 6; part++ {
			if (r.b.Log(part) != nil) != slices.Contains(want, part) {
				t.Fatal("of", part, "there is a log:", r.b.Log(part) != nil)
			}
		}
	}
	r.wantRoles(l(3), nil)
	wantLogs(3)
	r.wantTell(produce(2, 0, batch("x")), api.ErrLeader, api.Msg{Last: 1})
	r.wantTell(join("g", 2), api.ErrCoord, api.Msg{Last: 1})
	r.now = 1
	wantMsgs(t, r.tick(1))
	for _, name := range []string{"part-1.meta", "part-2.meta", "part-5.meta"} {
		must(t, r.d.Remove(name))
	}
	r.calm()
	r.wantRoles(l(3), nil)
	r.feed(api.Meta{Kind: meta.Pid})
	r.wantRoles(l(1, 2, 3), l(5))
	wantLogs(1, 2, 3, 5)
	r.wantTell(join("g", 2), api.OK, api.Msg{Index: 1, Pid: 1, Seq: 1, Ints: l(2)})
	wantMsgs(t, r.tick(1), asks(5, 3, 1, 1))
}

// E6: where Lead or Follow fail there is neither, but the log is there; a follower that could not be made is counted all the same.
func TestLostSegments(t *testing.T) {
	r := serving(t)
	// Followers were made of 5; then of 1, 2 and 3.
	r.feed(fence(1, 1))
	for _, part := range []string{"1", "2"} {
		must(t, r.d.Remove("part-"+part+"-0000000000.log"))
	}
	r.feed(unfence(1, 1))
	r.wantRoles(nil, l(2, 3, 5))
	if r.b.Log(1) == nil {
		t.Fatal("the log is gone")
	}
	ask := func(part, leader, epoch, made int) api.Msg {
		m := asks(part, leader, made, 1)
		m.Epoch = epoch
		return m
	}
	// The fifth, of 2, fails; the sixth is of 3.
	r.feed(fence(2, 1), unfence(2, 1))
	r.wantRoles(nil, l(3, 5))
	wantMsgs(t, r.tick(1), ask(3, 2, 4, 6), ask(5, 3, 1, 1))
	// It is tried again when more was applied: the seventh, and the eighth ahead of that of 5.
	r.feed(api.Meta{Kind: meta.Pid})
	r.feed(fence(3, 1), unfence(3, 1))
	r.wantRoles(nil, l(3, 5))
	wantMsgs(t, r.tick(2), ask(5, 3, 3, 9))
}

// E6: the coordinator is that of the leader of the offsets' partition: a new one for each.
func TestCoordinators(t *testing.T) {
	r := leading(t)
	if n := r.b.Log(1).Next(); n != 1 {
		t.Fatal("the offsets' log ends at", n)
	}
	// What is applied makes no new one.
	r.wantTell(api.Msg{Kind: api.AdminAsk, Index: meta.Pid}, api.OK, api.Msg{Offset: 1})
	if n := r.b.Log(1).Next(); n != 1 {
		t.Fatal("the offsets' log ends at", n)
	}
	r.wantTell(join("g", 2), api.OK, api.Msg{Index: 1, Pid: 1, Seq: 1, Ints: l(2)})
	x := member(t)
	x.feed(append(ups(1), makes("offsets", 1, 1))...)
	x.wantTell(join("g", 2), api.OK, api.Msg{Index: 1, Pid: 1, Seq: 1, Ints: l(2)})
	x.feed(fence(1, 1))
	x.wantTell(join("g", 2), api.ErrCoord, api.Msg{})
	x.feed(unfence(1, 1))
	if n := x.b.Log(1).Next(); n != 3 {
		t.Fatal("the offsets' log ends at", n)
	}
	x.wantTell(join("g", 2), api.OK, api.Msg{Index: 1, Pid: 2, Seq: 2})
	// Both at once: it is another leader.
	x.feed(fence(1, 1), unfence(1, 1))
	if n := x.b.Log(1).Next(); n != 5 {
		t.Fatal("the offsets' log ends at", n)
	}
	x.wantTell(join("h", 2), api.OK, api.Msg{Index: 1, Pid: 1, Seq: 1, Ints: l(2)})
}

// E6: a coordinator that cannot write its first record is none; it is tried again when more was applied.
func TestCoordinatorOfTooFew(t *testing.T) {
	r := member(t)
	r.feed(append(ups(1, 2), api.Meta{Kind: meta.Topic, Name: "offsets", A: 1, B: 2, C: 2})...)
	r.wantTell(join("g", 2), api.ErrState, api.Msg{Index: 1})
	r.feed(fence(2, 1), fence(1, 1), unfence(1, 1))
	r.wantRoles(l(1), nil)
	for range 2 {
		r.wantTell(join("g", 2), api.ErrCoord, api.Msg{Last: 1})
		r.feed(api.Meta{Kind: meta.Pid})
	}
	r.feed(unfence(2, 1), api.Meta{Kind: meta.Alter, A: 1, B: 1, C: 3, D: r.part(1).Version, List: l(1, 2)})
	// It waits for its first record.
	r.wantTell(join("g", 2), api.ErrState, api.Msg{Index: 1})
	m := fetch(2, 1, 3, 2, 3)
	if list := r.step(m); len(list) != 1 {
		t.Fatal(show(list))
	}
	r.wantNothing(join("g", 2))
	m.Offset = 3
	list := r.step(m)
	wantMsgs(t, list[1:], r.tells(api.GroupTell, api.OK, api.Msg{Index: 1, Pid: 1, Seq: 1, Ints: l(2)}))
}
