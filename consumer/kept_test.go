package consumer

import (
	"testing"

	"logboom/api"
)

// What is kept is what is open, and what was not told yet.
func TestWhatIsKept(t *testing.T) {
	c, _ := New(102, []int{1, 2}, 10, 3)
	for now := 0; now < 2000; now += 10 {
		for kind := Read; kind <= Stay; kind++ {
			c.Call(now, api.Seen{Kind: kind, Part: 2, Text: "1"})
		}
		for _, m := range c.Tick(now + 5) {
			c.Step(now, api.Msg{Kind: m.Kind + 1, From: m.To, To: m.From, Id: m.Id, Err: api.Errno(now / 10 % 24)})
		}
		if len(c.open) > 20 || cap(c.open) > 100 {
			t.Fatal(len(c.open), cap(c.open))
		}
		c.Done()
		if len(c.ended) > 0 {
			t.Fatal(c.ended)
		}
	}
}
