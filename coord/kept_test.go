package coord

import (
	"strings"
	"testing"

	"logboom/api"
	"logboom/disk"
	"logboom/groups"
	"logboom/replica"
	"logboom/store"
)

// What is kept is of those who are members, and of requests that wait: nothing of those that were.
func TestWhatIsKept(t *testing.T) {
	d, _ := disk.New(1000000)
	s, _ := store.Open(d, "p", 1000)
	x, _ := replica.Lead(1, s, api.Part{Id: 1, Leader: 1, Epoch: 1, Version: 1, Isr: []int{1}, Replicas: []int{1}, Min: 1}, 0, 10)
	c, e := New(x, 0, 10)
	if e != api.OK {
		t.Fatal(e)
	}
	wantKept := func(members int) {
		t.Helper()
		if len(c.stays) != members || len(c.waiting) != 0 {
			t.Fatalf("kept: %d members, %d requests, want %d, none", len(c.stays), len(c.waiting), members)
		}
	}
	c.Run(0)
	ask := func(now, kind, id int) {
		c.Ask(now, api.Msg{Kind: api.GroupAsk, Index: kind, Name: "g", Pid: id, Seq: id})
	}
	for id := range 5 {
		wantKept(id)
		ask(0, groups.Join, 0)
	}
	wantKept(5)
	for _, kind := range []int{groups.Join, groups.Commit, groups.Read, groups.Sync, beat} {
		for _, id := range []int{-1, 0, 6, 99} {
			if kind != groups.Join || id != 0 {
				ask(1, kind, id)
			}
		}
		c.Ask(1, api.Msg{Kind: api.GroupAsk, Index: kind, Name: strings.Repeat("h", 30), Pid: 1})
	}
	wantKept(5)
	ask(2, groups.Leave, 1)
	ask(2, groups.Leave, 1)
	wantKept(4)
	c.Tick(100)
	wantKept(0)
}
