package groups

import (
	"slices"
	"strings"

	"logboom/api"
)

// mostEver is how many members a group may have had.
const mostEver = 1000000

// kind is what a kind of record does, and what it tells.
func kind(k int) func(*Groups, api.Meta) Told {
	switch k {
	case Join:
		return (*Groups).join
	case Leave, Commit, Read, Sync:
		return (*Groups).ask
	case Epoch:
		return (*Groups).begin
	}
	return (*Groups).refuse
}

// kindOfOne is what a kind of record does to the group that it names.
func kindOfOne(k int) func(*group, api.Meta) Told {
	switch k {
	case Leave:
		return (*group).leave
	case Commit:
		return (*group).commit
	case Sync:
		return (*group).sync
	}
	return (*group).read
}

// refuse is what a record does that is of no kind.
func (g *Groups) refuse(api.Meta) Told { return Told{Err: api.ErrArg} }

// ask is what a record does that makes no group: the group must be there.
func (g *Groups) ask(m api.Meta) Told {
	x, ok := g.groups[m.Name]
	if !ok {
		return Told{Err: api.ErrNone}
	}
	does := kindOfOne(m.Kind)
	return does(x, m)
}

func (g *Groups) join(m api.Meta) Told {
	if e := g.refusesJoin(m); e != api.OK {
		return Told{Err: e}
	}
	x, id := g.findOrMake(m.Name), m.A
	if id == 0 {
		id = x.admit()
	}
	x.parts = slices.Clone(m.List)
	x.gen++
	return Told{Member: id, Gen: x.gen, Parts: x.partsOf(id)}
}

func (g *Groups) refusesJoin(m api.Meta) api.Errno {
	x := g.find(m.Name)
	_, ok := g.groups[m.Name]
	switch {
	case !isName(m.Name) || m.A < 0 || !isRising(m.List):
		return api.ErrArg
	case m.A > 0 && !ok:
		return api.ErrNone
	case m.A > 0 && !x.has(m.A):
		return api.ErrMember
	case !ok && len(g.groups) >= api.MaxGroups || m.A == 0 && len(x.members) >= api.MaxMembers || x.ever >= mostEver:
		return api.ErrMany
	}
	return api.OK
}

func (g *Groups) findOrMake(name string) *group {
	if x, ok := g.groups[name]; ok {
		return x
	}
	if g.groups == nil {
		// New did not make these.
		g.groups = map[string]*group{}
	}
	x := &group{offsets: map[int]int{}}
	g.groups[strings.Clone(name)] = x
	return x
}

// begin is what a coordinator's first record does: those of elder epochs come too late from now on.
func (g *Groups) begin(m api.Meta) Told {
	if m.A < g.epoch {
		return Told{Err: api.ErrFenced}
	}
	g.epoch = m.A
	return Told{Gen: m.A}
}

// isName tells whether a text may be a group's name.
func isName(s string) bool {
	if len(s) < 1 || len(s) > api.MaxName {
		return false
	}
	for i := range len(s) {
		if !isOfName(s[i]) {
			return false
		}
	}
	return true
}

func isOfName(c byte) bool {
	return c >= 'a' && c <= 'z' || c >= '0' && c <= '9' || c == '-'
}

// isRising tells whether a list is one of partitions, each behind the one ahead of it.
func isRising(list []int) bool {
	last := 0
	for _, id := range list {
		if id <= last || id > api.MaxParts {
			return false
		}
		last = id
	}
	return true
}

func isOffset(n int) bool { return n >= 0 && n <= api.MaxOffset }
