package meta_test

import (
	"fmt"
	"math/rand"
	"slices"
	"strconv"
	"testing"

	"logboom/api"
	"logboom/meta"
	"logboom/reassign"
)

// draws are what the walks are made of.
type draws struct{ *rand.Rand }

func (r draws) of(list ...int) int { return list[r.Intn(len(list))] }

// ids is some of 1 to 7, in a drawn order; now and then one that is none.
func (r draws) ids(few int) []int {
	list := r.Perm(7)[:r.Intn(few+1)]
	for i := range list {
		list[i]++
	}
	if r.Intn(20) == 0 {
		list = append(list, r.of(0, 8, -1, 3))
	}
	return list
}

// id is mostly one of 1 to n.
func (r draws) id(n int) int {
	if r.Intn(20) == 0 {
		return r.of(wild()...)
	}
	return r.Intn(n+2) + r.of(0, 0, 0, 1)
}

// record is one that may be one of those that an image is waiting for.
func (r draws) record(p *paper) api.Meta {
	switch r.Intn(21) {
	case 0, 1:
		id := r.id(7)
		return register(id, p.lifeOf(id)+r.of(1, 1, 1, 0, -1, 5))
	case 2, 3:
		id := r.id(7)
		return fence(id, p.lifeOf(id)+r.of(0, 0, 0, 0, 1, -1))
	case 4, 5, 6, 7, 8:
		id := r.id(7)
		return unfence(id, p.lifeOf(id)+r.of(0, 0, 0, 0, 1, -1))
	case 9:
		return topic("t"+strconv.Itoa(r.Intn(6)), r.of(1, 1, 2, 3, 16, 17), r.of(0, 1, 2, 3, 4, 5, 6), r.of(0, 1, 1, 1, 2, 3))
	case 10, 11, 12, 13:
		return r.alter(p)
	case 14:
		return r.move(p)
	case 15:
		return stay(r.moving(p))
	case 16:
		return pid(r.of(0, 0, r.id(len(p.epochs))))
	case 17:
		return prefer(r.id(len(p.parts)))
	case 18, 19:
		return done(r.moving(p))
	}
	return api.Meta{Kind: r.id(10), A: r.id(7), B: r.id(7), C: r.id(3), D: r.id(3), Name: "t", List: r.ids(7)}
}

func (p *paper) lifeOf(id int) int {
	if s := p.seat(id); s != nil {
		return s.life
	}
	return 0
}

// moving is mostly a partition of which a move is open; one with all in sync first.
func (r draws) moving(p *paper) int {
	id := r.id(len(p.parts))
	for _, x := range p.parts {
		if len(x.Adding)+len(x.Removing) > 0 && r.Intn(2) == 0 {
			id = x.Id
			if len(x.Isr) == len(x.Replicas) {
				return id
			}
		}
	}
	return id
}

// move is mostly one to brokers that are up.
func (r draws) move(p *paper) api.Meta {
	list := r.ids(5)
	if r.Intn(5) > 0 {
		list = p.up()
		r.Shuffle(len(list), func(i, k int) { list[i], list[k] = list[k], list[i] })
		list = list[:min(len(list), 1+r.Intn(5))]
	}
	return move(r.of(r.id(len(p.parts)), r.moving(p)), list...)
}

// alter is mostly a leader's, with those of its replicas that are up, or some of them.
func (r draws) alter(p *paper) api.Meta {
	id := r.of(r.id(len(p.parts)), r.moving(p))
	if id < 1 || id > len(p.parts) || r.Intn(10) == 0 {
		return alter(id, r.id(7), r.id(3), r.id(3), r.ids(7)...)
	}
	x := p.parts[id-1]
	list, some := l(), r.ids(7)
	if r.Intn(2) == 0 {
		some = l(1, 2, 3, 4, 5, 6, 7)
	}
	for _, k := range x.Replicas {
		if k == x.Leader || slices.Contains(p.up(), k) && slices.Contains(some, k) {
			list = append(list, k)
		}
	}
	if r.Intn(20) == 0 {
		list = append(list, r.of(0, 1, 2, 3, 8))
	}
	r.Shuffle(len(list), func(i, k int) { list[i], list[k] = list[k], list[i] })
	return alter(id, x.Leader, x.Epoch+r.of(0, 0, 0, 0, 0, 0, 1, -1), x.Version+r.of(0, 0, 0, 0, 0, 0, 1, -1), list...)
}

// wantFollows asks what follows of a record (A4): M9 of each partition.
func wantFollows(t *testing.T, r api.Meta, was, is []api.Part) {
	t.Helper()
	for i, p := range was {
		q := is[i]
		if why := broken(r, p, q); why != "" {
			t.Fatalf("%s: %+v made %+v of %+v", why, r, q, p)
		}
	}
}

// broken tells what of M9 does not hold; nothing, if all does.
func broken(r api.Meta, p, q api.Part) string {
	has := func(list []int, id int) bool { return slices.Contains(list, id) }
	var dropped []int
	for _, id := range p.Replicas {
		if !has(q.Replicas, id) {
			dropped = append(dropped, id)
		}
	}
	switch {
	case !reassign.Right(q) || q.Id != p.Id || q.Min != p.Min:
		return "not right, or another partition"
	case q.Epoch < p.Epoch || q.Version < p.Version:
		return "Epoch or Version went down"
	case (q.Leader != p.Leader) != (q.Epoch > p.Epoch):
		return "another leader without another epoch, or the other way"
	case fmt.Sprint(p) != fmt.Sprint(q) && q.Version == p.Version:
		return "a change without a version"
	case q.Leader != p.Leader && q.Leader != 0 && !(has(p.Isr, q.Leader) && has(q.Isr, q.Leader)):
		return "a new leader that was not in sync"
	case len(q.Isr) == 0:
		return "nobody is in sync"
	case len(dropped) > 0 && r.Kind != meta.Done && r.Kind != meta.Stay:
		return "a replica was dropped"
	}
	for _, id := range dropped {
		if r.Kind == meta.Stay && !has(p.Adding, id) {
			return "an old replica was dropped"
		}
	}
	for _, id := range p.Replicas {
		if len(dropped) > 0 && r.Kind == meta.Done && !has(p.Removing, id) && !has(p.Isr, id) {
			return "a replica was dropped ahead of all targets being in sync"
		}
	}
	return ""
}

// wantLeadersUp asks that each leader is up.
func wantLeadersUp(t *testing.T, r api.Meta, m *meta.Image) {
	t.Helper()
	up := m.Up()
	for _, p := range m.Parts() {
		if p.Leader != 0 && !slices.Contains(up, p.Leader) {
			t.Fatalf("behind %+v a leader is not up: %+v, up %v", r, p, up)
		}
	}
}

// seen counts what came of the kinds of records.
type seen [12][25]int

func (s *seen) note(kind int, e api.Errno) {
	if kind < 0 || kind > 10 {
		kind = 11
	}
	s[kind][e]++
}

// walk applies drawn records to an image and to the paper, and asks of each that both are one, now and then also of a copy, and of one that was kept and loaded.
func walk(t *testing.T, r draws, m *meta.Image, p *paper, steps int, leadersUp bool, s *seen) {
	t.Helper()
	for range steps {
		x := r.record(p)
		was := p.clone().parts
		n, e := m.Apply(x)
		k, f := p.apply(x)
		if n != k || e != f {
			t.Fatalf("Apply(%+v) to %s: %d, %d, want %d, %d", x, p.told(), n, int(e), k, int(f))
		}
		s.note(x.Kind, e)
		wantImage(t, fmt.Sprintf("behind %+v", x), m, p)
		wantFollows(t, x, was, m.Parts())
		if leadersUp {
			wantLeadersUp(t, x, m)
		}
		switch r.Intn(10) {
		case 0:
			m = wantLoaded(t, p)
		case 1:
			other := m
			m = m.Clone()
			other.Apply(r.record(p))
			other.Apply(r.record(p))
		}
	}
}

// A4: same records, same images; M9 from one to the next; leaders are up.
func TestWalks(t *testing.T) {
	var s seen
	for seed := range 120 {
		r := draws{rand.New(rand.NewSource(int64(seed)))}
		walk(t, r, meta.New(), &paper{}, 300, true, &s)
	}
	for _, c := range []struct {
		kind   int
		errnos []api.Errno
	}{
		{meta.Register, []api.Errno{api.OK, api.ErrArg, api.ErrFenced}},
		{meta.Fence, []api.Errno{api.OK, api.ErrArg, api.ErrNone, api.ErrFenced, api.ErrState}},
		{meta.Unfence, []api.Errno{api.OK, api.ErrArg, api.ErrNone, api.ErrFenced, api.ErrState}},
		{meta.Topic, []api.Errno{api.OK, api.ErrArg, api.ErrTwice, api.ErrMany}},
		{meta.Alter, []api.Errno{api.OK, api.ErrArg, api.ErrNone, api.ErrState, api.ErrFenced, api.ErrNewer}},
		{meta.Move, []api.Errno{api.OK, api.ErrArg, api.ErrNone, api.ErrState}},
		{meta.Stay, []api.Errno{api.OK, api.ErrNone, api.ErrState}},
		{meta.Done, []api.Errno{api.OK, api.ErrNone, api.ErrState}},
		{meta.Prefer, []api.Errno{api.OK, api.ErrNone, api.ErrState}},
		{meta.Pid, []api.Errno{api.OK, api.ErrArg, api.ErrNone}},
		{11, []api.Errno{api.ErrArg}},
	} {
		for _, e := range c.errnos {
			if s[c.kind][e] < 20 {
				t.Errorf("kind %d, error %d: met %d times only", c.kind, int(e), s[c.kind][e])
			}
		}
	}
}

// Walks at the end of epochs and versions: ErrOver is told, or passed over.
func TestWalksAtTheEndOfNumbers(t *testing.T) {
	var s seen
	for seed := range 80 {
		r := draws{rand.New(rand.NewSource(int64(1000 + seed)))}
		p := rich()
		for i := range p.parts {
			p.parts[i].Epoch, p.parts[i].Version = most-r.Intn(4), most-r.Intn(8)
		}
		p.seats = append(p.seats[:2:2], seat{3, most - 3, true}, seat{4, most, true}, seat{5, 1, true})
		p.epochs = l(most, most-1, most-2)
		walk(t, r, wantLoaded(t, p), p, 100, false, &s)
	}
	for _, kind := range l(meta.Alter, meta.Move, meta.Prefer, meta.Pid) {
		if s[kind][api.ErrOver] < 10 {
			t.Errorf("kind %d: ErrOver met %d times only", kind, s[kind][api.ErrOver])
		}
	}
}

// A4: two images, each made of its own records, are the same at each step.
func TestTwoImagesOfTheSameRecords(t *testing.T) {
	for seed := range 20 {
		r := draws{rand.New(rand.NewSource(int64(5000 + seed)))}
		p, a, b := &paper{}, meta.New(), meta.New()
		var records []api.Meta
		for range 200 {
			x := r.record(p)
			p.apply(x)
			records = append(records, x)
			a.Apply(x)
		}
		for _, x := range records {
			b.Apply(x)
		}
		if a.Keep() != b.Keep() || told(a) != told(b) {
			t.Fatalf("seed %d: two images of the same records are two", seed)
		}
	}
}
