package producer_test

import (
	"math/rand"
	"testing"

	"logboom/api"
	"logboom/dedup"
	"logboom/meta"
	"logboom/rpc"
)

// shelf is a partition that never falls: its log, and the producers' table of it.
type shelf struct {
	values []string
	at     map[string]int
	table  *dedup.Table
}

// stand is brokers of which now this one and now that one leads, that all have one log: what a producer may meet with, without the making of it.
type stand struct {
	chance
	t       *testing.T
	brokers []int
	shelves map[int]*shelf
	leaders map[int]int // 0: the controller
	image   *meta.Image
	net     []api.Msg
	now     int
	told    map[api.Errno]int
}

func (s *stand) broker() int { return s.brokers[s.Intn(len(s.brokers))] }

// refused is an error that a broker may come by without having written anything, or OK.
func (s *stand) refused(m api.Msg) api.Errno {
	switch n := s.Intn(60); {
	case m.To != s.leaders[m.Part]:
		return api.ErrLeader
	case n < 6:
		return passing()[s.Intn(5)]
	case n == 6:
		return ending()[s.Intn(18)]
	}
	return api.OK
}

// serve has a broker do what it is asked.
func (s *stand) serve(m api.Msg) api.Msg {
	s.t.Helper()
	err := s.refused(m)
	offset := 0
	if err == api.OK {
		offset, err = s.write(m)
	}
	if err != api.OK {
		offset = 0
	}
	a := rpc.Answer(m, err)
	a.Offset = offset
	if err == api.ErrLeader && s.Intn(4) > 0 {
		a.Last = s.leaders[m.Part]
	}
	s.told[err]++
	return a
}

func (s *stand) write(m api.Msg) (int, api.Errno) {
	if m.Kind == api.AdminAsk {
		return s.image.Apply(api.Meta{Kind: m.Index, A: m.High})
	}
	b, x := m.Batches[0], s.shelves[m.Part]
	at, e := x.table.Ask(b.Pid, b.PidEpoch, b.Seq, len(b.Records))
	if e != api.OK || at >= 0 {
		return at, e
	}
	b.Base = len(x.values)
	x.table.Note(b)
	for _, r := range b.Records {
		if _, ok := x.at[r.Value]; ok {
			s.t.Fatalf("%q stands twice", r.Value)
		}
		x.at[r.Value] = len(x.values)
		x.values = append(x.values, r.Value)
	}
	return b.Base, api.OK
}

// deliver has one message come, twice, or never; what a broker answers is on its way then.
func (s *stand) deliver(w *watch) {
	s.t.Helper()
	if len(s.net) == 0 {
		return
	}
	i := s.Intn(min(len(s.net), s.of(1, 1, 4, 50)))
	m := s.net[i]
	if s.Intn(12) > 0 {
		s.net = append(s.net[:i:i], s.net[i+1:]...)
	}
	switch {
	case s.Intn(12) == 0:
	case m.To < 100:
		s.net = append(s.net, s.serve(m))
	default:
		s.net = append(s.net, w.step(s.now, m)...)
	}
	if n := len(s.net); n > 60 {
		s.net = s.net[n-50:]
	}
}

// hold asks that what was acknowledged stands where it was told, and sequences in their order.
func (s *stand) hold(w *watch) {
	s.t.Helper()
	for _, c := range w.calls {
		for i, r := range c.list {
			at, ok := s.shelves[c.part].at[r.Value]
			if c.gone && c.err == api.OK && (!ok || at != c.offset+i) {
				s.t.Fatalf("%q was acknowledged at %d, and stands at %d", r.Value, c.offset+i, at)
			}
		}
	}
	for part, x := range s.shelves {
		last := place{}
		for _, v := range x.values {
			c := w.calls[w.of[v]-1]
			if c.at.pid == last.pid && c.at.epoch < last.epoch || c.at.epoch == last.epoch && c.at.pid == last.pid && c.at.seq < last.seq {
				s.t.Fatalf("in %d %+v stands behind %+v", part, c.at, last)
			}
			last = c.at
		}
	}
}

// P18.5: whatever is lost, comes twice or late, and whoever leads: sequences are used once, and go on; each call ends once, and in time.
func TestOnce(t *testing.T) {
	told := map[api.Errno]int{}
	acked := 0
	for seed := range 400 {
		s := &stand{chance: chance{rand.New(rand.NewSource(int64(seed)))}, t: t, brokers: l(1, 3, 4), leaders: map[int]int{0: 1, 2: 1, 3: 3}, shelves: map[int]*shelf{}, image: meta.New(), told: told}
		for part := 2; part <= 3; part++ {
			s.shelves[part] = &shelf{at: map[string]int{}, table: dedup.New()}
		}
		wait, tries := s.of(4, 10), s.of(2, 5, 8)
		w := newWatch(t, 101, s.brokers, wait, tries)
		for range 2000 {
			switch n := s.Intn(100); {
			case n < 15:
				s.now++
				s.net = append(s.net, w.tick(s.now)...)
			case n < 25:
				s.net = append(s.net, w.send(s.now, 2+s.Intn(2), 1+s.Intn(3))...)
			case n < 26:
				s.leaders[s.of(0, 2, 3)] = s.broker()
			default:
				s.deliver(w)
			}
		}
		s.hold(w)
		// What nobody answers is late in time: what is under way, then the PID.
		for range 2 * wait * tries {
			s.now++
			w.tick(s.now)
		}
		if w.p.Open() != 0 {
			t.Fatal("open are", w.p.Open())
		}
		for _, c := range w.calls {
			if c.err == api.OK {
				acked++
			}
		}
	}
	if acked < 25000 {
		t.Error("acknowledged were", acked)
	}
	for _, err := range []api.Errno{api.OK, api.ErrLeader, api.ErrFenced, api.ErrOrder, api.ErrDuplicate, api.ErrFull} {
		if told[err] < 20 {
			t.Error(err, told[err])
		}
	}
}
