package producer

import (
	"testing"

	"logboom/api"
)

// What is kept is what is open, and what was not told yet.
func TestWhatIsKept(t *testing.T) {
	p, _ := New(101, []int{1, 2}, 10, 2)
	one := []api.Record{{Value: "x"}}
	for now := 0; now < 2000; now += 10 {
		for part := 2; part <= 5; part++ {
			p.Send(now, part, one)
		}
		for _, m := range p.Tick(now) {
			p.Step(now, api.Msg{Kind: m.Kind + 1, From: m.To, To: m.From, Id: m.Id, Err: api.Errno(now / 10 % 24), Offset: 1})
		}
		if len(p.open) > 20 || len(p.requests) > 4 || cap(p.open) > 100 || cap(p.requests) > 100 {
			t.Fatal(len(p.open), len(p.requests), cap(p.open), cap(p.requests))
		}
		p.Done()
		if len(p.ended) > 0 {
			t.Fatal(p.ended)
		}
	}
}
