package consumer_test

import (
	"math"
	"math/rand"
	"slices"
	"strings"
	"testing"

	"logboom/api"
	"logboom/consumer"
)

// chance is what the walks are drawn from.
type chance struct{ *rand.Rand }

// of is one of some numbers.
func (c chance) of(list ...int) int { return list[c.Intn(len(list))] }

// walk is a consumer, a twin of it, and its paper, to which the same things happen.
type walk struct {
	chance
	t       *testing.T
	c, twin *consumer.Consumer
	paper   *paper
	now     int
	asked   []api.Msg // of late
}

func newWalk(t *testing.T, c chance, told map[string]int) *walk {
	t.Helper()
	var brokers []int
	for id := 1; id <= 7; id++ {
		if c.Intn(3) == 0 {
			brokers = append(brokers, id)
		}
	}
	if len(brokers) == 0 {
		brokers = l(1 + c.Intn(7))
	}
	id, wait, tries := c.of(101, 202, 999), c.of(1, 3, 10), c.of(1, 2, 3, 8)
	w := &walk{chance: c, t: t, paper: newPaper(id, brokers, wait, tries, told)}
	if c.Intn(4) == 0 {
		w.now = math.MaxInt - 200
	}
	for _, x := range []**consumer.Consumer{&w.c, &w.twin} {
		made, e := consumer.New(id, brokers, wait, tries)
		if e != api.OK {
			t.Fatal(e)
		}
		*x = made
	}
	return w
}

// hold asks that all three are in the same state, as far as it is to be seen.
func (w *walk) hold(got, twin, paper []api.Msg) {
	w.t.Helper()
	if !same(got, paper) || !same(twin, paper) {
		w.t.Fatalf("told is\n%sby the twin\n%sand on paper\n%s", show(got), show(twin), show(paper))
	}
	for _, m := range got {
		m.Ints = slices.Clone(m.Ints)
		w.asked = append(w.asked, m)
		for i := range m.Ints {
			m.Ints[i] = -5
		}
	}
	if len(w.asked) > 20 {
		w.asked = w.asked[len(w.asked)-20:]
	}
	if w.c.Open() != len(w.paper.lines) || w.twin.Open() != w.c.Open() {
		w.t.Fatalf("open are %d calls, and on paper %d", w.c.Open(), len(w.paper.lines))
	}
}

// some is a call, mostly one that may be.
func (w *walk) some() api.Seen {
	s := api.Seen{Kind: 1 + w.Intn(9), Part: w.of(0, 1, 2, 2, 3, 16), Offset: w.Intn(9), Pid: w.Intn(9), Seq: w.Intn(9), Name: strings.Repeat("n", w.of(0, 1, 32))}
	s.Text = []string{"", "1", "1,2", "0,999", "7,7,7,7,7,7,7"}[w.Intn(5)]
	if w.Intn(8) == 0 {
		field := []*int{&s.Kind, &s.Part, &s.Offset, &s.Pid, &s.Seq}[w.Intn(5)]
		*field = w.of(append(wild(), 0, 10, 17)...)
	}
	if w.Intn(20) == 0 {
		s.Name = strings.Repeat("n", 33)
	}
	if w.Intn(8) == 0 {
		s.Text = []string{",", "01", "1000", "a", "1,,1", "1,1,1,1,1,1,1,1"}[w.Intn(6)]
	}
	if w.Intn(4) == 0 {
		s.Client, s.Call, s.PidEpoch, s.Err, s.Done = 1, 2, 3, 4, true
	}
	return s
}

// answer is one to what was asked of late, or to something like it.
func (w *walk) answer() api.Msg {
	if len(w.asked) == 0 {
		return api.Msg{Kind: w.Intn(29), Id: w.Intn(3)}
	}
	m := w.asked[len(w.asked)-1-w.Intn(len(w.asked))]
	a := tell(m, api.Errno(w.Intn(25)))
	a.Offset, a.Pid, a.Seq = w.Intn(9), w.Intn(9), w.Intn(9)
	for range w.Intn(4) {
		a.Ints = append(a.Ints, w.Intn(20))
		b := api.Batch{Base: w.Intn(9)}
		for range w.Intn(4) {
			b.Records = append(b.Records, api.Record{Value: strings.Repeat("v", w.Intn(9))})
		}
		a.Batches = append(a.Batches, b)
	}
	switch w.Intn(10) {
	case 0, 1:
		a.Err = api.OK
	case 2, 3:
		a.Err = api.Errno(w.of(3, 19))
	case 4, 5, 6, 7:
		a.Err, a.Last = api.Errno(w.of(15, 22)), w.Intn(9)
	}
	if w.Intn(8) == 0 {
		field := []*int{&a.Id, &a.From, &a.To, &a.Kind, &a.Part}[w.Intn(5)]
		*field += w.of(-1, 1, -1000000000)
	}
	return a
}

// happen has one thing happen to all three.
func (w *walk) happen() {
	w.t.Helper()
	switch n := w.Intn(20); {
	case n < 7:
		s := w.some()
		a, got, e := w.c.Call(w.now, s)
		b, twin, f := w.twin.Call(w.now, s)
		c, paper, g := w.paper.call(w.now, s)
		if a != b || a != c || e != f || e != g {
			w.t.Fatalf("of %+v told is %d %v, by the twin %d %v, and on paper %d %v", s, a, e, b, f, c, g)
		}
		w.hold(got, twin, paper)
	case n < 11:
		w.now += w.of(0, 1, 1, 1, 2, 5)
		w.hold(w.c.Tick(w.now), w.twin.Tick(w.now), w.paper.tick(w.now))
	case n < 18:
		m := w.answer()
		w.paper.step(w.now, m)
		w.hold(w.c.Step(w.now, m), w.twin.Step(w.now, m), nil)
	default:
		if got, twin, paper := w.c.Done(), w.twin.Done(), w.paper.takeDone(); !slices.Equal(got, paper) || !slices.Equal(twin, paper) {
			w.t.Fatalf("done are\n%+v\nby the twin\n%+v\nand on paper\n%+v", got, twin, paper)
		}
	}
}

// P19.1 to P19.4, P4: in drawn walks the consumer does what the chapter says, as does its twin.
func TestWalks(t *testing.T) {
	told := map[string]int{}
	for seed := range 300 {
		w := newWalk(t, chance{rand.New(rand.NewSource(int64(seed)))}, told)
		for range 1000 {
			w.happen()
		}
	}
	for _, x := range []string{"many", "without tries", "late", "of no call", "no answer", "a hint", "no hint", "passing 19", "passing 3", "ended", "a record"} {
		if told[x] < 200 {
			t.Error(x, told[x])
		}
	}
	for kind := consumer.Read; kind <= consumer.Stay; kind++ {
		for _, x := range []string{"well ", "asked anew "} {
			x += string(rune('0' + kind))
			if told[x] < 200 {
				t.Error(x, told[x])
			}
		}
	}
}
