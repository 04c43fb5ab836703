package producer_test

import (
	"math"
	"math/rand"
	"slices"
	"strings"
	"testing"

	"logboom/api"
	"logboom/producer"
)

// chance is what the walks are drawn from.
type chance struct{ *rand.Rand }

// of is one of some numbers.
func (c chance) of(list ...int) int { return list[c.Intn(len(list))] }

// walk is a producer, a twin of it, and its paper, to which the same things happen.
type walk struct {
	chance
	t       *testing.T
	p, twin *producer.Producer
	paper   *paper
	brokers []int
	now     int
	asked   []api.Msg // of late
}

func newWalk(t *testing.T, c chance, told map[string]int) *walk {
	t.Helper()
	var brokers []int
	for id := 1; id <= 7; id++ {
		if c.Intn(3) == 0 {
			brokers = append(brokers, id)
		}
	}
	if len(brokers) == 0 {
		brokers = l(1 + c.Intn(7))
	}
	id, wait, tries := c.of(101, 150, 999), c.of(1, 3, 10), c.of(1, 2, 3, 8)
	w := &walk{chance: c, t: t, brokers: brokers, paper: newPaper(id, brokers, wait, tries, told)}
	if c.Intn(4) == 0 {
		w.now = math.MaxInt - 200
	}
	w.p, w.twin = made(t, id, brokers, wait, tries), made(t, id, brokers, wait, tries)
	return w
}

// hold asks that all three are in the same state, as far as it is to be seen.
func (w *walk) hold(got, twin, paper []api.Msg) {
	w.t.Helper()
	if !same(got, paper) || !same(twin, paper) {
		w.t.Fatalf("told is\n%sby the twin\n%sand on paper\n%s", show(got), show(twin), show(paper))
	}
	w.asked = append(w.asked, got...)
	if len(w.asked) > 12 {
		w.asked = w.asked[len(w.asked)-12:]
	}
	pid, epoch := w.p.Id()
	if w.p.Open() != w.paper.open() || pid != w.paper.pid || epoch != w.paper.epoch {
		w.t.Fatalf("it is %d %d with %d calls, and on paper %d %d with %d", pid, epoch, w.p.Open(), w.paper.pid, w.paper.epoch, w.paper.open())
	}
}

// some are records, mostly right ones.
func (w *walk) some() []api.Record {
	list := make([]api.Record, w.of(0, 1, 1, 1, 1, 2, 3, 64, 65))
	for i := range list {
		list[i] = api.Record{Key: strings.Repeat("k", w.Intn(4)), Value: strings.Repeat("v", w.Intn(9)), Time: w.Intn(100)}
	}
	if len(list) > 0 && w.Intn(20) == 0 {
		list[0].Time = w.of(-1, api.MaxTick+1, api.MaxTick)
	}
	if len(list) > 0 && w.Intn(20) == 0 {
		list[0].Value = strings.Repeat("v", w.of(1000, 1001))
	}
	return list
}

// answer is one to what was asked of late, or to something like it.
func (w *walk) answer() api.Msg {
	if len(w.asked) == 0 {
		return api.Msg{Kind: w.Intn(29), Id: w.Intn(3)}
	}
	m := w.asked[len(w.asked)-1-min(w.Intn(len(w.asked)), w.Intn(len(w.asked)))]
	a := tell(m, api.Errno(w.Intn(25)), w.of(0, 0, 1, 7, 7, 1000, -1))
	switch w.Intn(10) {
	case 0, 1, 2, 3, 4:
		a.Err = api.OK
	case 5, 6:
		a.Err, a.Last = api.ErrLeader, w.Intn(9)
	}
	if w.Intn(8) == 0 {
		field := []*int{&a.Id, &a.From, &a.To, &a.Kind, &a.Part}[w.Intn(5)]
		*field += w.of(-1, 1, -1000000000)
	}
	return a
}

// happen has one thing happen to all three.
func (w *walk) happen() {
	w.t.Helper()
	switch n := w.Intn(20); {
	case n < 5:
		part, list := w.of(2, 2, 3, 3, 4, 5, 16, w.Intn(18)), w.some()
		a, got, e := w.p.Send(w.now, part, list)
		b, twin, f := w.twin.Send(w.now, part, slices.Clone(list))
		c, paper, g := w.paper.send(w.now, part, list)
		if a != b || a != c || e != f || e != g {
			w.t.Fatalf("told is %d %v, by the twin %d %v, and on paper %d %v", a, e, b, f, c, g)
		}
		scribble([]api.Msg{{Batches: []api.Batch{{Records: list}}}})
		w.hold(got, twin, paper)
	case n < 9:
		w.now += w.of(0, 1, 1, 1, 2, 5)
		w.hold(w.p.Tick(w.now), w.twin.Tick(w.now), w.paper.tick(w.now))
	case n < 18:
		m := w.answer()
		w.hold(w.p.Step(w.now, m), w.twin.Step(w.now, m), w.paper.step(w.now, m))
	default:
		if got, twin, paper := w.p.Done(), w.twin.Done(), w.paper.takeDone(); !slices.Equal(got, paper) || !slices.Equal(twin, paper) {
			w.t.Fatalf("done are\n%+v\nby the twin\n%+v\nand on paper\n%+v", got, twin, paper)
		}
	}
}

// P18.1 to P18.4, P4: in drawn walks the producer does what the chapter says, as does its twin.
func TestWalks(t *testing.T) {
	told := map[string]int{}
	for seed := range 300 {
		w := newWalk(t, chance{rand.New(rand.NewSource(int64(seed)))}, told)
		if seed%30 == 0 {
			w.nearTheEnd()
		}
		for range 1000 {
			w.happen()
		}
	}
	for _, x := range []string{"late for the PID", "late", "asked anew", "of no request", "no answer", "a hint", "no hint", "passing", "PID", "EPOCH", "no PID", "well", "ended"} {
		if told[x] < 200 {
			t.Error(x, told[x])
		}
	}
	if told["sequences at an end"] < 3 {
		t.Error("sequences at an end", told["sequences at an end"])
	}
}

// nearTheEnd has all three send as many sequences to 2 as there are, but for few: the last call does not fit behind the one ahead of it.
func (w *walk) nearTheEnd() {
	w.t.Helper()
	list := make([]api.Record, 64)
	for i := range 15625 {
		if i == 15624 {
			list = list[:60]
		}
		_, got, _ := w.p.Send(w.now, 2, list)
		w.twin.Send(w.now, 2, list)
		w.paper.send(w.now, 2, list)
		for len(got) > 0 {
			m := tell(got[0], api.OK, 5)
			got = w.p.Step(w.now, m)
			w.twin.Step(w.now, m)
			w.paper.step(w.now, m)
		}
		w.p.Done()
		w.twin.Done()
		w.paper.takeDone()
	}
	for range 2 {
		_, got, _ := w.p.Send(w.now, 2, list[:3])
		_, twin, _ := w.twin.Send(w.now, 2, list[:3])
		_, paper, _ := w.paper.send(w.now, 2, list[:3])
		w.hold(got, twin, paper)
	}
}
