package groups_test

import (
	"fmt"
	"math/rand"
	"slices"
	"strconv"
	"testing"

	"logboom/api"
	"logboom/groups"
)

// draws are what the walks are made of.
type draws struct{ *rand.Rand }

func (r draws) of(list ...int) int { return list[r.Intn(len(list))] }

// parts is mostly some of 1 to 16, rising.
func (r draws) parts() []int {
	list := []int{}
	odds := r.of(1, 2, 5)
	for id := 1; id <= 16; id++ {
		if r.Intn(odds) == 0 {
			list = append(list, id)
		}
	}
	switch r.Intn(15) {
	case 0:
		return append(list, r.of(0, 1, 16, 17, -1))
	case 1:
		return nil
	}
	return list
}

// member is mostly one of a group's that there is.
func (r draws) member(c *circle) int {
	if c == nil || len(c.people) == 0 || r.Intn(15) == 0 {
		return r.of(append(wild(), 0, 1, 2, 3)...)
	}
	return c.people[r.Intn(len(c.people))].id
}

// gen is mostly a group's generation.
func (r draws) gen(c *circle) int {
	if c == nil {
		return 1
	}
	return c.gen + r.of(0, 0, 0, 0, 0, 0, 0, 1, -1, -2)
}

// record is one that may be one of those that groups wait for.
func (r draws) record(p *paper, names int) api.Meta {
	name := "g" + strconv.Itoa(r.Intn(names))
	if r.Intn(50) == 0 {
		name = []string{"", "A", "none", "g?"}[r.Intn(4)]
	}
	c := p.circle(name)
	id := r.member(c)
	switch r.Intn(20) {
	case 0, 1, 2:
		return join(name, 0, r.parts()...)
	case 3, 4:
		return join(name, id, r.parts()...)
	case 5:
		return leave(name, id)
	case 6, 7, 8, 9, 10, 11, 12, 13:
		return r.commit(c, name, id)
	case 14, 15:
		return read(name, r.Intn(18))
	case 16, 17:
		return sync(name, id, r.gen(c))
	case 18:
		return epoch(p.epoch + r.of(0, 1, 1, 5, -1, -p.epoch-1))
	}
	n := func() int { return r.of(append(wild(), 0, 1, 2, 3, 4)...) }
	return api.Meta{Kind: r.of(0, 2, 3, 4, 6, 7, n()), Name: name, A: n(), B: n(), C: n(), D: n(), List: l(n(), n())[:r.Intn(3)]}
}

// commit is mostly one by a partition's owner, with a number that is next, or was there.
func (r draws) commit(c *circle, name string, id int) api.Meta {
	part, number := r.Intn(18), r.Intn(10)
	if c != nil {
		if who := c.person(id); who != nil {
			number = who.number + r.of(1, 1, 1, 1, 2, 7, 0, -1)
		}
		if own := c.partsOf(id); len(own) > 0 && r.Intn(6) > 0 {
			part = own[r.Intn(len(own))]
		}
	}
	offset := r.of(0, r.Intn(100), r.Intn(100), r.Intn(100), r.Intn(100), most, most+1, -1)
	m := commit(name, id, r.gen(c), part, offset, number)
	if r.Intn(20) == 0 {
		m.List = append(m.List, 1)[r.Intn(2)*2:]
	}
	return m
}

// ledger is what was seen of a machine on its way: it tells what of G15.4 does not hold.
type ledger struct {
	epoch   int
	gens    map[string]int
	given   map[string]int // ids of members, by group and id
	taken   map[string]int // commits, by group, member and number
	offsets map[string]int // by group and partition
}

func newLedger() *ledger {
	return &ledger{gens: map[string]int{}, given: map[string]int{}, taken: map[string]int{}, offsets: map[string]int{}}
}

// note writes down what a record told.
func (x *ledger) note(m api.Meta, told groups.Told) string {
	switch {
	case told.Err != api.OK:
		return ""
	case m.Kind == groups.Join && m.A == 0:
		key := fmt.Sprint(m.Name, " ", told.Member)
		x.given[key]++
		if x.given[key] > 1 {
			return "an id of a member is given twice"
		}
	case m.Kind == groups.Commit:
		key := fmt.Sprint(m.Name, " ", m.A, " ", m.List[0])
		x.taken[key]++
		if x.taken[key] > 1 {
			return "a commit is taken twice"
		}
		x.offsets[fmt.Sprint(m.Name, " ", m.C)] = m.D
	}
	return ""
}

// broken tells what does not hold of a machine behind a record.
func (x *ledger) broken(g *groups.Groups) string {
	if g.Epoch() < x.epoch {
		return "the epoch went down"
	}
	x.epoch = g.Epoch()
	for _, name := range g.Names() {
		if g.Gen(name) < max(x.gens[name], 1) {
			return "a generation went down"
		}
		x.gens[name] = g.Gen(name)
		for part := 0; part <= 17; part++ {
			want, ok := x.offsets[fmt.Sprint(name, " ", part)]
			if !ok {
				want = -1
			}
			if g.Offset(name, part) != want {
				return "an offset is not what the last commit said"
			}
		}
		if why := owners(g, name); why != "" {
			return why
		}
	}
	return ""
}

// owners tells what is wrong with who owns what.
func owners(g *groups.Groups, name string) string {
	members := g.Members(name)
	if !slices.IsSorted(members) || len(slices.Compact(slices.Clone(members))) != len(members) {
		return "members do not rise"
	}
	var has [18]int
	for _, id := range members {
		for _, part := range g.Apply(sync(name, id, g.Gen(name))).Parts {
			has[part]++
			if has[part] > 1 || g.Owner(name, part) != id {
				return "a partition has two owners"
			}
		}
	}
	for part, n := range has {
		if n == 0 && g.Owner(name, part) != 0 {
			return "an owner that was not told of its partition"
		}
	}
	return ""
}

// seen counts what came of the kinds of records.
type seen [8][25]int

func (s *seen) note(kind int, e api.Errno) {
	if kind < 1 || kind > 6 {
		kind = 7
	}
	s[kind][e]++
}

// walk applies drawn records to a machine and to the paper, and asks of each that both are one, and that what follows holds.
func walk(t *testing.T, r draws, steps, names int, s *seen) {
	t.Helper()
	g, p, x := groups.New(), &paper{}, newLedger()
	for range steps {
		m := r.record(p, names)
		got, want := g.Apply(m), p.apply(m)
		if !same(got, want) {
			t.Fatalf("Apply(%+v) to\n%s\n%+v, want %+v", m, p.told(), got, want)
		}
		s.note(m.Kind, got.Err)
		wantAll(t, fmt.Sprintf("behind %+v", m), g, p)
		why := x.note(m, got)
		if why == "" {
			why = x.broken(g)
		}
		if why != "" {
			t.Fatalf("behind %+v: %s\n%s", m, why, told(g))
		}
	}
}

// G15.4: what follows, of any records.
func TestWalks(t *testing.T) {
	var s seen
	for seed := range 60 {
		r := draws{rand.New(rand.NewSource(int64(seed)))}
		walk(t, r, 400, r.of(1, 2, 3, 12), &s)
	}
	for kind, errnos := range map[int][]api.Errno{
		groups.Join:   {api.OK, api.ErrArg, api.ErrNone, api.ErrMember, api.ErrMany},
		groups.Leave:  {api.OK, api.ErrNone, api.ErrMember},
		groups.Commit: {api.OK, api.ErrNone, api.ErrMember, api.ErrGen, api.ErrArg, api.ErrDuplicate, api.ErrState},
		groups.Read:   {api.OK, api.ErrNone},
		groups.Sync:   {api.OK, api.ErrNone, api.ErrMember, api.ErrGen},
		groups.Epoch:  {api.OK, api.ErrFenced},
		7:             {api.ErrArg},
	} {
		for _, e := range errnos {
			if s[kind][e] < 20 {
				t.Errorf("kind %d, error %d: met %d times only", kind, int(e), s[kind][e])
			}
		}
	}
}

// P4: machines to which the same records were applied are the same, whatever they were asked on their way.
func TestTwoMachinesOfTheSameRecords(t *testing.T) {
	for seed := range 20 {
		r := draws{rand.New(rand.NewSource(int64(5000 + seed)))}
		p, a, b := &paper{}, groups.New(), groups.New()
		for range 300 {
			m := r.record(p, 10)
			p.apply(m)
			told(a)
			if x, y := a.Apply(m), b.Apply(m); !same(x, y) {
				t.Fatalf("seed %d: %+v is told %+v and %+v", seed, m, x, y)
			}
		}
		if told(a) != told(b) {
			t.Fatalf("seed %d: two machines of the same records are two", seed)
		}
	}
}

// P1: any record is answered.
func TestAnyRecord(t *testing.T) {
	r := draws{rand.New(rand.NewSource(9))}
	n := func() int { return r.of(append(wild(), 0, 1, 2, 3, 4, 5, 15, 16, 17, most, 1000000)...) }
	for range 50 {
		g, p := groups.New(), &paper{}
		for range 400 {
			m := api.Meta{Kind: r.Intn(8), A: n(), B: n(), C: n(), D: n(), Name: []string{"g", "h", "", "?", "0"}[r.Intn(5)]}
			for range r.Intn(4) {
				m.List = append(m.List, n())
			}
			if got, want := g.Apply(m), p.apply(m); !same(got, want) {
				t.Fatalf("Apply(%+v) to\n%s\n%+v, want %+v", m, p.told(), got, want)
			}
		}
		wantAll(t, "any records", g, p)
	}
}
