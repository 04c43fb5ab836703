package producer

import (
	"testing"

	"logboom/api"
)

// TO ASK: behind the greatest number comes 1.
func TestNumbersGoRound(t *testing.T) {
	p, _ := New(101, []int{1}, 10, 5)
	p.number = api.MaxOffset - 1
	_, list, _ := p.Send(0, 2, []api.Record{{Value: "x"}})
	for i, id := range []int{api.MaxOffset, 1, 2} {
		if len(list) != 1 || list[0].Id != id {
			t.Fatal(i, list)
		}
		list = p.Tick(10 * (i + 1))
	}
}

// What is kept is what is open, and what was not told yet.
func TestWhatIsKept(t *testing.T) {
	p, _ := New(101, []int{1, 2}, 10, 2)
	one := []api.Record{{Value: "x"}}
	for now := 0; now < 2000; now += 10 {
		for part := 2; part <= 5; part++ {
			p.Send(now, part, one)
		}
		for _, m := range p.Tick(now) {
			p.Step(now, api.Msg{Kind: m.Kind + 1, From: m.To, To: m.From, Id: m.Id, Err: api.Errno(now / 10 % 24), Offset: 1})
		}
		if len(p.open) > 20 || len(p.requests) > 4 || cap(p.open) > 100 || cap(p.requests) > 100 {
			t.Fatal(len(p.open), len(p.requests), cap(p.open), cap(p.requests))
		}
		p.Done()
		if len(p.ended) > 0 {
			t.Fatal(p.ended)
		}
	}
}
