package replica

import (
	"testing"

	"logboom/api"
	"logboom/disk"
	"logboom/store"
)

// F7: behind MaxOffset comes 0. (From outside it would take as many calls.)
func TestNumbersBeginAgain(t *testing.T) {
	d, _ := disk.New(10000)
	s, _ := store.Open(d, "p", 256)
	p := api.Part{Id: 1, Leader: 1, Epoch: 2, Version: 1, Isr: []int{1, 2}, Replicas: []int{1, 2, 3}, Min: 1}
	x, e := Follow(2, s, p, 1, 1)
	if e != api.OK {
		t.Fatal(e)
	}
	x.number = api.MaxOffset - 1
	for _, want := range []int{api.MaxOffset, 0, 1} {
		m := x.Ask()
		if m.Id != want {
			t.Fatalf("got %d, want %d", m.Id, want)
		}
		told := api.Msg{Kind: api.FetchTell, From: 1, Part: 1, Epoch: 2, Id: want, Pid: 1, PidEpoch: 1}
		if e := x.Take(told); e != api.OK {
			t.Fatalf("the answer to %d: %v", want, e)
		}
		if e := x.Take(told); e != api.ErrState {
			t.Fatalf("the answer to %d once more: %v", want, e)
		}
	}
}
