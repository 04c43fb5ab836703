package broker

import (
	"testing"

	"logboom/api"
	"logboom/disk"
	"logboom/meta"
	"logboom/wire"
)

// begun is the broker 1 of some on an empty disk.
func begun(t *testing.T, ids ...int) *Broker {
	t.Helper()
	d, e := disk.New(1000000)
	if e != api.OK {
		t.Fatal(e)
	}
	b, e := New(1, Config{Brokers: ids, Wait: 10, Beat: 5, Session: 30, Lag: 20, Segment: 1000}, d, 1, 0)
	if e != api.OK {
		t.Fatal(e)
	}
	return b
}

func (b *Broker) wantKept(t *testing.T, wishes, waiting int) {
	t.Helper()
	if len(b.control.wishes) != wishes || len(b.waiting) != waiting {
		t.Fatalf("kept are %d wishes, %d requests, want %d, %d", len(b.control.wishes), len(b.waiting), wishes, waiting)
	}
}

// What is kept of requests is what is not answered yet.
func TestWhatIsKept(t *testing.T) {
	b := begun(t, 1)
	for _, now := range []int{0, 10, 15, 20} {
		b.Tick(now, 0)
	}
	for _, name := range []string{"offsets", "t", "t", "T"} {
		b.Step(21, api.Msg{Kind: api.AdminAsk, From: 101, To: 1, Index: meta.Topic, Name: name, High: 1, Seq: 1, Pid: 1})
		b.wantKept(t, 0, 0)
	}
	for range 3 {
		b.Step(21, api.Msg{Kind: api.ProduceAsk, From: 101, To: 1, Part: 2, Batches: []api.Batch{{Records: []api.Record{{}}}}})
		for _, kind := range []int{api.ReadAsk, api.DeleteAsk} {
			b.Step(21, api.Msg{Kind: kind, From: 101, To: 1, Part: 2, Offset: 1})
		}
		b.wantKept(t, 0, 0)
	}
}

// Wishes are kept until they are agreed on; those that lie in a snapshot, or were put off, no longer.
func TestKeptWishes(t *testing.T) {
	b := begun(t, 1, 2, 3)
	b.Tick(0, 0)
	b.Tick(10, 0)
	b.Step(10, api.Msg{Kind: api.VoteTell, From: 2, To: 1, Term: 1})
	wish := api.Msg{Kind: api.AdminAsk, From: 101, To: 1, Index: meta.Pid}
	for i := range 6 {
		b.wantKept(t, i, 0)
		b.Step(10, wish)
	}
	// The node's own entry is 1, the wishes are 2 to 7.
	b.Step(10, api.Msg{Kind: api.AppendTell, From: 2, To: 1, Term: 1, Index: 3})
	b.wantKept(t, 4, 0)
	b.Step(10, api.Msg{Kind: api.SnapAsk, From: 3, To: 1, Term: 2, Index: 5, Last: 2, Text: b.image.Keep()})
	b.wantKept(t, 2, 0)
	b.Step(10, api.Msg{Kind: api.AppendAsk, From: 3, To: 1, Term: 2, Index: 5, Last: 2, High: 6, Entries: []api.Entry{{Term: 2, Index: 6}}})
	b.wantKept(t, 1, 0)
	b.Step(10, api.Msg{Kind: api.SnapAsk, From: 3, To: 1, Term: 2, Index: 9, Last: 2, Text: "no image"})
	b.wantKept(t, 0, 0)
}

// What waits is kept as long as the leader that it was asked of.
func TestKeptRequests(t *testing.T) {
	b := begun(t, 1, 2, 3)
	end := 0
	feed := func(records ...api.Meta) {
		m := api.Msg{Kind: api.AppendAsk, From: 2, To: 1, Term: 1, Index: end, Last: min(end, 1)}
		for _, r := range records {
			end++
			s, _ := wire.Meta(r)
			m.Entries = append(m.Entries, api.Entry{Term: 1, Index: end, Data: s})
		}
		m.High = end
		b.Step(1, m)
	}
	for id := 1; id <= 2; id++ {
		feed(api.Meta{Kind: meta.Register, A: id, B: 1}, api.Meta{Kind: meta.Unfence, A: id, B: 1})
	}
	feed(api.Meta{Kind: meta.Topic, Name: "t", A: 3, B: 2, C: 1})
	for _, kind := range []int{api.ReadAsk, api.DeleteAsk, api.ProduceAsk} {
		b.Step(1, api.Msg{Kind: kind, From: 101, To: 1, Part: 3, Batches: []api.Batch{{Records: []api.Record{{}}}}})
	}
	b.wantKept(t, 0, 3)
	feed(api.Meta{Kind: meta.Fence, A: 1, B: 1})
	b.wantKept(t, 0, 0)
}
