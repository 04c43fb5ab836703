package groups_test

import (
	"fmt"
	"math"
	"slices"
	"strings"
	"testing"

	"logboom/api"
	"logboom/groups"
)

const most = api.MaxOffset

// l is a list of members, or of partitions.
func l(ids ...int) []int { return ids }

// wild are numbers that are no id, no offset, no number of a commit.
func wild() []int {
	return l(-1, -2, -most, math.MinInt, math.MinInt+1, most+1, 1<<31, 1<<32, 1<<32+1, 1<<40, math.MaxInt-1, math.MaxInt)
}

// Records of each kind.

func join(name string, id int, parts ...int) api.Meta {
	return api.Meta{Kind: 1, Name: name, A: id, List: parts}
}

func leave(name string, id int) api.Meta { return api.Meta{Kind: 2, Name: name, A: id} }

func commit(name string, id, gen, part, offset int, number ...int) api.Meta {
	return api.Meta{Kind: 3, Name: name, A: id, B: gen, C: part, D: offset, List: number}
}

func read(name string, part int) api.Meta { return api.Meta{Kind: 4, Name: name, C: part} }

func epoch(n int) api.Meta { return api.Meta{Kind: 5, A: n} }

func sync(name string, id, gen int) api.Meta { return api.Meta{Kind: 6, Name: name, A: id, B: gen} }

// told is what a machine answers to all questions, of its own groups and of some names beside.
func told(g *groups.Groups) string {
	var b strings.Builder
	names := g.Names()
	fmt.Fprint(&b, "epoch ", g.Epoch(), " names ", names)
	for _, name := range append(names, "none", "", "A") {
		fmt.Fprint(&b, "\n", name, ": gen ", g.Gen(name), " members ", g.Members(name), " parts")
		for part := -1; part <= 18; part++ {
			fmt.Fprint(&b, " ", g.Owner(name, part), "/", g.Offset(name, part))
		}
	}
	return b.String()
}

// wantTold applies a record, and asks what it tells.
func wantTold(t *testing.T, g *groups.Groups, m api.Meta, want groups.Told) {
	t.Helper()
	if got := g.Apply(m); !same(got, want) {
		t.Errorf("Apply(%+v): %+v, want %+v", m, got, want)
	}
}

// wantErr applies a record that is refused, and asks that it changes nothing.
func wantErr(t *testing.T, g *groups.Groups, m api.Meta, e api.Errno) {
	t.Helper()
	was := told(g)
	wantTold(t, g, m, groups.Told{Err: e})
	if is := told(g); is != was {
		t.Errorf("Apply(%+v), refused, made\n%s\nof\n%s", m, is, was)
	}
}

func wantList(t *testing.T, what string, got, want []int) {
	t.Helper()
	if !slices.Equal(got, want) {
		t.Errorf("%s: %v, want %v", what, got, want)
	}
}

func same(a, b groups.Told) bool {
	return a.Err == b.Err && a.Member == b.Member && a.Gen == b.Gen && a.Offset == b.Offset && slices.Equal(a.Parts, b.Parts)
}

// made is what a Join tells, or a Sync.
func made(id, gen int, parts ...int) groups.Told {
	return groups.Told{Member: id, Gen: gen, Parts: parts}
}

// person is a member of a group on paper, note an offset that was committed.
type person struct{ id, number int }

type note struct{ part, offset int }

type circle struct {
	name      string
	gen, ever int
	people    []person
	parts     []int
	notes     []note // the last one of a partition holds
}

// paper is a machine as plainly as the document writes it down.
type paper struct {
	circles []*circle
	epoch   int
}

func (p *paper) circle(name string) *circle {
	for _, c := range p.circles {
		if c.name == name {
			return c
		}
	}
	return nil
}

func (c *circle) person(id int) *person {
	for i := range c.people {
		if c.people[i].id == id {
			return &c.people[i]
		}
	}
	return nil
}

// dealt is how many partitions each of k members has: they are given out one by one, round and round.
func dealt(n, k int) []int {
	counts := make([]int, k)
	for i := range n {
		counts[i%k]++
	}
	return counts
}

// owners are those of the partitions, place by place.
func (c *circle) owners() []int {
	var list []int
	if len(c.people) == 0 {
		return make([]int, len(c.parts))
	}
	for i, n := range dealt(len(c.parts), len(c.people)) {
		list = append(list, slices.Repeat(l(c.people[i].id), n)...)
	}
	return list
}

func (c *circle) owner(part int) int {
	owners := c.owners()
	for i, id := range c.parts {
		if id == part {
			return owners[i]
		}
	}
	return 0
}

func (c *circle) partsOf(id int) []int {
	var list []int
	for i, owner := range c.owners() {
		if owner == id {
			list = append(list, c.parts[i])
		}
	}
	return list
}

func (c *circle) offset(part int) int {
	for _, n := range slices.Backward(c.notes) {
		if n.part == part {
			return n.offset
		}
	}
	return -1
}

// apply is G15.2, kind by kind.
func (p *paper) apply(m api.Meta) groups.Told {
	if m.Kind == 1 {
		return p.join(m)
	}
	if m.Kind == 5 {
		if m.A < p.epoch {
			return groups.Told{Err: api.ErrFenced}
		}
		p.epoch = m.A
		return groups.Told{Gen: m.A}
	}
	if m.Kind < 1 || m.Kind > 6 {
		return groups.Told{Err: api.ErrArg}
	}
	c := p.circle(m.Name)
	if c == nil {
		return groups.Told{Err: api.ErrNone}
	}
	if m.Kind == 4 {
		return groups.Told{Gen: c.gen, Offset: c.offset(m.C)}
	}
	return c.ofMember(m)
}

func (p *paper) join(m api.Meta) groups.Told {
	if len(m.Name) == 0 || len(m.Name) > 32 || strings.Trim(m.Name, "abcdefghijklmnopqrstuvwxyz0123456789-") != "" || m.A < 0 {
		return groups.Told{Err: api.ErrArg}
	}
	if !slices.IsSorted(m.List) || len(slices.Compact(slices.Clone(m.List))) < len(m.List) {
		return groups.Told{Err: api.ErrArg}
	}
	if len(m.List) > 0 && (m.List[0] < 1 || m.List[len(m.List)-1] > 16) {
		return groups.Told{Err: api.ErrArg}
	}
	c := p.circle(m.Name)
	if c == nil {
		if m.A > 0 {
			return groups.Told{Err: api.ErrNone}
		}
		if len(p.circles) == 8 {
			return groups.Told{Err: api.ErrMany}
		}
		c = &circle{name: m.Name}
		p.circles = append(p.circles, c)
	}
	if m.A > 0 && c.person(m.A) == nil {
		return groups.Told{Err: api.ErrMember}
	}
	if m.A == 0 && len(c.people) == 16 || c.ever == 1000000 {
		return groups.Told{Err: api.ErrMany}
	}
	id := m.A
	if id == 0 {
		c.ever++
		id = c.ever
		c.people = append(c.people, person{id, -1})
	}
	c.parts = slices.Clone(m.List)
	c.gen++
	return made(id, c.gen, c.partsOf(id)...)
}

// ofMember is Leave, Commit, Sync.
func (c *circle) ofMember(m api.Meta) groups.Told {
	who := c.person(m.A)
	if who == nil {
		return groups.Told{Err: api.ErrMember}
	}
	if m.Kind == 2 {
		c.people = slices.DeleteFunc(c.people, func(x person) bool { return x.id == m.A })
		c.gen++
		return groups.Told{Member: m.A, Gen: c.gen}
	}
	if m.B != c.gen {
		return groups.Told{Err: api.ErrGen}
	}
	if m.Kind == 6 {
		return made(m.A, c.gen, c.partsOf(m.A)...)
	}
	if m.D < 0 || m.D > 1000000000 || len(m.List) != 1 || m.List[0] < 0 || m.List[0] > 1000000000 {
		return groups.Told{Err: api.ErrArg}
	}
	if m.List[0] <= who.number {
		return groups.Told{Err: api.ErrDuplicate}
	}
	if c.owner(m.C) != m.A {
		return groups.Told{Err: api.ErrState}
	}
	who.number = m.List[0]
	c.notes = append(c.notes, note{m.C, m.D})
	return groups.Told{Member: m.A, Gen: c.gen, Offset: m.D}
}

// told is what a machine should answer to all questions.
func (p *paper) told() string {
	var b strings.Builder
	names := []string{}
	for _, c := range p.circles {
		names = append(names, c.name)
	}
	slices.Sort(names)
	fmt.Fprint(&b, "epoch ", p.epoch, " names ", names)
	for _, name := range append(names, "none", "", "A") {
		c := p.circle(name)
		if c == nil {
			c = &circle{}
		}
		ids := []int{}
		for _, x := range c.people {
			ids = append(ids, x.id)
		}
		fmt.Fprint(&b, "\n", name, ": gen ", c.gen, " members ", ids, " parts")
		for part := -1; part <= 18; part++ {
			fmt.Fprint(&b, " ", c.owner(part), "/", c.offset(part))
		}
	}
	return b.String()
}

// wantAll asks that a machine answers what the paper does.
func wantAll(t *testing.T, what string, g *groups.Groups, p *paper) {
	t.Helper()
	if got, want := told(g), p.told(); got != want {
		t.Fatalf("%s:\n%s\nwant\n%s", what, got, want)
	}
}
