package groups

import (
	"slices"

	"logboom/api"
)

// member is one of a group, with the number of its last commit.
type member struct {
	id, number int
}

// group is what its records made. Who owns what is not kept: Assign says it.
type group struct {
	gen     int
	ever    int
	members []member // by rising ids
	parts   []int
	offsets map[int]int
}

// place is where a member stands among all; -1: it is none.
func (x *group) place(id int) int {
	return slices.IndexFunc(x.members, func(m member) bool { return m.id == id })
}

func (x *group) has(id int) bool { return x.place(id) >= 0 }

func (x *group) ids() []int {
	var list []int
	for _, m := range x.members {
		list = append(list, m.id)
	}
	return list
}

// partsOf is what a member of the group owns.
func (x *group) partsOf(id int) []int { return Assign(x.ids(), x.parts)[x.place(id)] }

// owner is the member that owns a partition; 0: there is none.
func (x *group) owner(part int) int {
	ids := x.ids()
	for i, list := range Assign(ids, x.parts) {
		if slices.Contains(list, part) {
			return ids[i]
		}
	}
	return 0
}

// offset is a partition's; -1: there is none.
func (x *group) offset(part int) int {
	if n, ok := x.offsets[part]; ok {
		return n
	}
	return -1
}

// admit takes a new member in, whose id nobody had ahead of it.
func (x *group) admit() int {
	x.ever++
	x.members = append(x.members, member{id: x.ever, number: -1})
	return x.ever
}

func (x *group) leave(m api.Meta) Told {
	i := x.place(m.A)
	if i < 0 {
		return Told{Err: api.ErrMember}
	}
	x.members = slices.Delete(x.members, i, i+1)
	x.gen++
	return Told{Member: m.A, Gen: x.gen}
}

func (x *group) commit(m api.Meta) Told {
	if e := x.refusesCommit(m); e != api.OK {
		return Told{Err: e}
	}
	x.offsets[m.C] = m.D
	x.members[x.place(m.A)].number = m.List[0]
	return Told{Member: m.A, Gen: x.gen, Offset: m.D}
}

func (x *group) refusesCommit(m api.Meta) api.Errno {
	if e := x.refusesMember(m); e != api.OK {
		return e
	}
	switch {
	case !isOffset(m.D) || len(m.List) != 1 || !isOffset(m.List[0]):
		return api.ErrArg
	case m.List[0] <= x.members[x.place(m.A)].number:
		return api.ErrDuplicate
	case x.owner(m.C) != m.A:
		return api.ErrState
	}
	return api.OK
}

func (x *group) read(m api.Meta) Told { return Told{Gen: x.gen, Offset: x.offset(m.C)} }

func (x *group) sync(m api.Meta) Told {
	if e := x.refusesMember(m); e != api.OK {
		return Told{Err: e}
	}
	return Told{Member: m.A, Gen: x.gen, Parts: x.partsOf(m.A)}
}

// refusesMember tells why a record is not one of a member in this generation.
func (x *group) refusesMember(m api.Meta) api.Errno {
	switch {
	case !x.has(m.A):
		return api.ErrMember
	case m.B != x.gen:
		return api.ErrGen
	}
	return api.OK
}
