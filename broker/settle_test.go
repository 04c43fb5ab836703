package broker_test

import (
	"strings"
	"testing"

	"logboom/api"
	"logboom/meta"
	"logboom/raftlog"
	"logboom/wire"
)

// keeps is what some records make of an image, as bytes.
func keeps(records ...api.Meta) string {
	im := meta.New()
	for _, x := range records {
		im.Apply(x)
	}
	return im.Keep()
}

// snap has the controller tell a snapshot: what the broker tells then.
func (r *rig) snap(index int, text string) []api.Msg {
	r.t.Helper()
	list := r.step(api.Msg{Kind: api.SnapAsk, From: 2, Term: r.term, Index: index, Last: r.term, Text: text})
	if len(list) == 0 || list[0].Kind != api.SnapTell || list[0].Err != api.OK {
		r.t.Fatal(show(list))
	}
	r.end = max(r.end, index)
	return list[1:]
}

// E6: a snapshot is the image then, and the broker leads and follows as it says.
func TestSnapshots(t *testing.T) {
	r := serving(t)
	r.wantNothing(produce(2, 0, batch("x")))
	records := append(ups(1, 2, 3), makes("offsets", 1, 1), makes("t", 1, 2), makes("u", 3, 2), fence(1, 1), unfence(1, 1))
	text := keeps(records...)
	wantMsgs(t, r.snap(50, text), r.tells(api.ProduceTell, api.ErrLeader, api.Msg{Part: 2}))
	if r.b.Image().Keep() != text {
		t.Error("the image is another one")
	}
	r.wantRoles(l(1), l(2, 3, 5))
	// Entries go on from there.
	r.feed(fence(1, 1))
	r.wantRoles(nil, l(1, 2, 3, 5))
	if n := r.b.Image().Applied(); n != len(records)+1 {
		t.Error("applied are", n)
	}
}

// E6: a snapshot that is none is passed over; what comes behind it is applied to what there was.
func TestSnapshotsThatAreNone(t *testing.T) {
	for _, text := range []string{"", "no image", keeps(ups(1, 2)...)[1:], keeps(ups(1, 2)...) + " "} {
		r := serving(t)
		was := r.b.Image().Keep()
		wantMsgs(t, r.snap(50, text))
		if r.b.Image().Keep() != was {
			t.Errorf("of %q it made another image", text)
		}
		r.wantRoles(l(1, 2, 3), l(5))
		r.feed(fence(1, 1))
		r.wantRoles(nil, l(1, 2, 3, 5))
	}
}

// E6: a broker that begins anew has what its snapshot says, and then the entries behind it.
func TestSnapshotsOnDisk(t *testing.T) {
	d := newDisk(t, 100000)
	log, e := raftlog.Open(d, "raft")
	must(t, e, log.Turn(1, 0), log.Snap(7, 1, keeps(append(ups(1, 2), makes("offsets", 1, 2))...)))
	must(t, log.Put(7, []api.Entry{{Term: 1, Index: 8, Data: entry(t, fence(1, 1))}}))
	r := &rig{t: t, id: 1, d: d, term: 1, end: 8}
	r.begin(config(1, 2, 3), 1)
	wantIdle(t, r.b)
	// The first that it does settles what was agreed on for sure.
	wantMsgs(t, r.tick(0))
	r.wantRoles(l(1), nil)
	r.feed()
	r.wantRoles(nil, l(1))
}

// E6: of entries that are no records nothing becomes, but that they are counted.
func TestEntriesThatAreNone(t *testing.T) {
	r := member(t)
	wantMsgs(t, r.feedData("", "no record", entry(t, register(1, 1))[1:], entry(t, register(1, 1))+" ", strings.Repeat("x", 2048)))
	if n := r.b.Image().Applied(); n != 0 {
		t.Fatal("applied are", n)
	}
	wantMsgs(t, r.feedData("", entry(t, register(1, 1)), "", entry(t, register(1, 1)), entry(t, api.Meta{Kind: 99})))
	if n := r.b.Image().Applied(); n != 3 {
		t.Error("applied are", n)
	}
}

// snapped is up to which index the disk has a snapshot, and its data.
func (r *rig) snapped() (int, string) {
	r.t.Helper()
	log, e := raftlog.Open(r.d, "raft")
	must(r.t, e)
	index, _, text := log.Snapshot()
	return index, text
}

// blanks are entries without data.
func blanks(n int) []string { return make([]string, n) }

// E6: 200 entries are made a snapshot, with what they say.
func TestCompact(t *testing.T) {
	r := member(t)
	wantSnap := func(index int) {
		t.Helper()
		n, text := r.snapped()
		if n != index {
			t.Fatal("there is a snapshot of", n, "not of", index)
		}
		if n > 0 && n == r.end && text != r.b.Image().Keep() {
			t.Fatal("it has another image")
		}
	}
	var records []string
	for _, x := range append(ups(1, 2), makes("offsets", 1, 1), makes("t", 1, 2)) {
		records = append(records, entry(t, x))
	}
	r.feedData(append(records, blanks(193)...)...)
	wantSnap(0)
	r.feedData("")
	wantSnap(200)
	r.feedData(blanks(60)...)
	r.feedData(blanks(60)...)
	r.feedData(blanks(60)...)
	wantSnap(200)
	// More than 200 at once.
	r.feedData(blanks(60)...)
	wantSnap(440)
	r.feedData(blanks(64)...)
	r.feedData(blanks(64)...)
	r.feedData(blanks(64)...)
	r.feedData(blanks(7)...)
	wantSnap(440)
	r.feedData(entry(t, fence(1, 1)))
	wantSnap(640)
	if im, e := meta.Load(second(r.snapped())); e != api.OK || im.Applied() != 7 {
		t.Error("the snapshot has", im, e)
	}
}

func second(_ int, s string) string { return s }

// E6: a snapshot that was loaded is where it counts from; of one that is none neither that nor an entry is counted.
func TestCompactBehindSnapshots(t *testing.T) {
	for text, want := range map[string]int{keeps(ups(1, 2)...): 500, "no image": 400} {
		r := member(t)
		for range 5 {
			r.feedData(blanks(20)...)
		}
		r.snap(300, text)
		for r.end < want-1 {
			r.feedData("")
		}
		if n, _ := r.snapped(); n != 300 {
			t.Fatalf("behind %q there is a snapshot of %d", text, n)
		}
		r.feedData("")
		if n, _ := r.snapped(); n != want {
			t.Fatalf("behind %q there is a snapshot of %d, not of %d", text, n, want)
		}
	}
}

// E6: a snapshot that could not be written is tried again when 200 more were taken.
func TestCompactOnFullDisk(t *testing.T) {
	r := member(t)
	r.feedData(blanks(64)...)
	r.feedData(blanks(64)...)
	r.feedData(blanks(64)...)
	// Room for the entries that are to come, but for no snapshot.
	must(t, r.d.Append("stuff", string(make([]byte, r.d.Free()-8*12-10))))
	r.feedData(blanks(8)...)
	if n, _ := r.snapped(); n != 0 {
		t.Fatal("there is a snapshot of", n)
	}
	must(t, r.d.Remove("stuff"))
	for r.end < 399 {
		r.feedData("")
	}
	if n, _ := r.snapped(); n != 0 {
		t.Fatal("there is a snapshot of", n)
	}
	r.feedData("")
	if n, _ := r.snapped(); n != 400 {
		t.Fatal("there is a snapshot of", n)
	}
}

// E6: one who asks waits for nothing when what it waits for is so already; others wait on, and none is told twice.
func TestWaitingInOrder(t *testing.T) {
	r := serving(t)
	for i, m := range []api.Msg{produce(2, 0, batch("a")), produce(3, 0, batch("b")), produce(2, 0, batch("c")), deletes(2, 0), read(3, 0), produce(3, 0, batch("d"))} {
		m = client(m)
		m.Id = i
		wantMsgs(t, r.step(m))
	}
	told := func(kind, part, id, offset int) api.Msg {
		return api.Msg{Kind: kind, From: 1, To: 101, Id: id, Part: part, Offset: offset}
	}
	m := fetch(2, 2, 1, 2, 1)
	list := r.step(m)
	wantMsgs(t, list[1:], told(api.ProduceTell, 2, 0, 0), told(api.ProduceTell, 2, 2, 1), told(api.DeleteTell, 2, 3, 0))
	m = fetch(2, 3, 1, 1, 1)
	list = r.step(m)
	wantMsgs(t, list[1:], told(api.ProduceTell, 3, 1, 0))
	m = fetch(2, 3, 1, 1, 1)
	m.Seq = 1
	list = r.step(m)
	x := told(api.ReadTell, 3, 4, 0)
	x.High, x.Batches = 1, []api.Batch{at(0, 1, batch("b"))}
	wantMsgs(t, list[1:], x)
	// The leader goes: who still waits is told.
	wantMsgs(t, r.feed(fence(1, 1)), api.Msg{Kind: api.ProduceTell, From: 1, To: 101, Id: 5, Part: 3, Err: api.ErrLeader})
	wantMsgs(t, r.feed(unfence(1, 1)))
}

// E6: a wish is answered ahead of the coordinator's answers, and these ahead of what waits.
func TestSettleInOrder(t *testing.T) {
	r := controller(t)
	r.comes(1, 1)
	r.comes(2, 1)
	for _, m := range []api.Msg{topic("offsets", 1, 2), topic("t", 1, 2)} {
		r.step(client(m))
		r.agree()
	}
	m := fetch(2, 1, 1, 1, 1)
	r.step(m)
	r.wantNothing(join("g", 2))
	r.wantNothing(produce(2, 0, batch("x")))
	r.step(client(api.Msg{Kind: api.AdminAsk, Index: meta.Pid}))
	r.step(alters(1, 1, 1, 1, 1))
	r.step(alters(1, 2, 1, 1, 1))
	r.step(client(api.Msg{Kind: api.AdminAsk, Index: meta.Pid}))
	wantMsgs(t, r.agree(),
		r.tells(api.AdminTell, api.OK, api.Msg{Offset: 1}),
		r.tells(api.AdminTell, api.OK, api.Msg{Offset: 2}),
		r.tells(api.GroupTell, api.OK, api.Msg{Index: 1, Pid: 1, Seq: 1, Ints: l(2)}),
		r.tells(api.ProduceTell, api.OK, api.Msg{Part: 2}))
}

// The record that wire.ReadMeta reads is the whole of the data: nothing may stand behind it.
func TestRecordsAreWhole(t *testing.T) {
	if _, e := wire.ReadMeta(entry(t, register(1, 1)) + " "); e == api.OK {
		t.Error("it is read")
	}
}
