package reassign_test

import (
	"fmt"
	"math"
	"slices"
	"testing"

	"logboom/api"
	"logboom/reassign"
)

const most = api.MaxOffset

// l is a list of brokers.
func l(ids ...int) []int { return ids }

// at is a state of partition 1 with Min 2; lists are Isr, Replicas, Adding, Removing.
func at(leader, epoch, version int, lists ...[]int) api.Part {
	p := api.Part{Id: 1, Leader: leader, Epoch: epoch, Version: version, Min: 2}
	for i, list := range lists {
		*listOf(&p, i) = list
	}
	return p
}

// known is the state of the document's examples, moving the one that its Begin makes of it.
func known() api.Part { return at(1, 3, 5, l(1, 2), l(1, 2, 3)) }

func moving() api.Part { return at(1, 3, 6, l(1, 2), l(2, 4, 1, 3), l(4), l(1, 3)) }

// listOf is one of a state's four lists.
func listOf(p *api.Part, i int) *[]int {
	return [4]*[]int{&p.Isr, &p.Replicas, &p.Adding, &p.Removing}[i]
}

// told is all of a state as a text; a list of nothing is [] there, nil or not.
func told(p api.Part) string { return fmt.Sprintf("%+v", p) }

// wantPart asks that a call answers that state.
func wantPart(t *testing.T, what string, want api.Part) func(api.Part, api.Errno) {
	t.Helper()
	return func(p api.Part, e api.Errno) {
		t.Helper()
		if e != api.OK || told(p) != told(want) {
			t.Errorf("%s: got %s, %d, want %s", what, told(p), int(e), told(want))
		}
	}
}

// wantErr asks that a call is refused, with the zero state.
func wantErr(t *testing.T, what string, want api.Errno) func(api.Part, api.Errno) {
	t.Helper()
	return func(p api.Part, e api.Errno) {
		t.Helper()
		if e != want || told(p) != told(api.Part{}) {
			t.Errorf("%s: got %s, %d, want %d", what, told(p), int(e), int(want))
		}
	}
}

func wantRight(t *testing.T, p api.Part, want bool) {
	t.Helper()
	if reassign.Right(p) != want {
		t.Errorf("Right(%s) is not %v", told(p), want)
	}
}

// wild are numbers that are none of the document's.
func wild() []int {
	return []int{-1, -2, -most, most + 1, most + 2, 1 << 32, 1<<32 + 1, -1 << 32, math.MinInt, math.MinInt + 1, math.MaxInt}
}

// noIds are numbers that are no broker's; 0 is one of them.
func noIds() []int { return append(wild(), 0, 8, 9, 16, 64, 65, 256, 257, most) }

// M1: Right

func TestRightOfNumbers(t *testing.T) {
	for _, c := range []struct {
		name string
		most int
		of   func(*api.Part) *int
	}{
		{"Id", 16, func(p *api.Part) *int { return &p.Id }},
		{"Min", 5, func(p *api.Part) *int { return &p.Min }},
		{"Epoch", 1000000000, func(p *api.Part) *int { return &p.Epoch }},
		{"Version", 1000000000, func(p *api.Part) *int { return &p.Version }},
	} {
		for _, n := range []int{1, 2, c.most - 1, c.most} {
			p := known()
			*c.of(&p) = n
			wantRight(t, p, true)
		}
		for _, n := range append(wild(), 0, c.most+1, c.most+2) {
			p := known()
			*c.of(&p) = n
			wantRight(t, p, false)
		}
	}
}

func TestRightOfLists(t *testing.T) {
	all := l(1, 2, 3, 4, 5, 6, 7)
	for _, p := range []api.Part{
		known(), moving(),
		at(1, 1, 1, l(1), l(1)),
		at(0, 1, 1, l(1), l(1)),
		at(7, 1, 1, l(7), l(7)),
		at(7, 1, 1, all, all),
		at(3, 1, 1, l(4, 3, 7), l(7, 3, 6, 4, 1)),
		at(1, 1, 1, l(1), all, l(), l(1, 2, 3, 4, 5, 6)),
		at(1, 1, 1, l(1), all, l(7), l(1, 2, 3, 4, 5, 6)),
		at(1, 1, 1, l(1), all, all, nil),
		at(1, 1, 1, l(1), all, l(7, 6, 2, 1), l(5, 3)),
		// Words in brackets are not asked for: targets may stand behind.
		at(1, 1, 1, l(1), l(1, 2), l(2), l(1)),
		at(1, 1, 1, l(1), l(1), l(1)),
	} {
		wantRight(t, p, true)
	}
	for _, p := range []api.Part{
		{}, at(0, 1, 1), at(0, 1, 1, nil, l(1)), at(0, 1, 1, l(), l(1, 2, 3)), at(0, 1, 1, l(1), nil), at(1, 1, 1, l(1), l()),
		// Not part of Replicas.
		at(0, 1, 1, l(4), l(1, 2, 3)), at(1, 1, 1, l(1, 4), l(1, 2, 3)), at(4, 1, 1, l(1, 4), l(1, 2, 3)),
		at(1, 1, 1, l(1), l(1, 2), l(3)), at(1, 1, 1, l(1), l(1, 2), l(2, 3)),
		at(1, 1, 1, l(1), l(1, 2), nil, l(3)), at(1, 1, 1, l(1), l(1, 2), nil, l(2, 3)), at(1, 1, 1, l(1), l(1, 2), nil, l(1, 3)),
		// Both Adding and Removing.
		at(1, 1, 1, l(1), l(1, 2, 3), l(2), l(2)), at(1, 1, 1, l(1), l(1, 2, 3), l(3, 2), l(1, 2)),
		// All are Removing.
		at(1, 1, 1, l(1), l(1), nil, l(1)), at(1, 1, 1, l(1), l(1, 2, 3), nil, l(3, 1, 2)),
		at(1, 1, 1, l(1, 2, 3, 4, 5, 6, 7), l(1, 2, 3, 4, 5, 6, 7), nil, l(1, 2, 3, 4, 5, 6, 7)),
	} {
		wantRight(t, p, false)
	}
}

func TestRightOfWhatIsNoIdOrTwice(t *testing.T) {
	base := at(1, 1, 1, l(1, 4), l(1, 4, 5, 2), l(5), l(2))
	wantRight(t, base, true)
	for i := range 4 {
		for _, id := range append(noIds(), *listOf(&base, i)...) {
			for place := range len(*listOf(&base, i)) + 1 {
				p := reassign.Clone(base)
				*listOf(&p, i) = slices.Insert(*listOf(&p, i), place, id)
				wantRight(t, p, false)
				if id < 1 || id > 7 {
					// Also where Replicas have it, so that it is a part of them.
					p.Replicas = append(p.Replicas, id)
					wantRight(t, p, false)
				}
			}
		}
	}
	eight := l(1, 2, 3, 4, 5, 6, 7, 8)
	wantRight(t, at(1, 1, 1, l(1), eight), false)
	wantRight(t, at(1, 1, 1, l(1), append(eight[:7:7], 1)), false)
}

func TestRightOfTheLeader(t *testing.T) {
	p := at(0, 1, 1, l(2, 4), l(1, 2, 3, 4))
	for _, id := range l(0, 2, 4) {
		p.Leader = id
		wantRight(t, p, true)
	}
	for _, id := range append(wild(), 1, 3, 5, 6, 7, 8) {
		p.Leader = id
		wantRight(t, p, false)
	}
}

// long is a list that is too long for any but a quick look.
func long() []int { return slices.Repeat(l(1, 2, 3, 9, -1), 50000) }

func TestLongLists(t *testing.T) {
	list := long()
	for i := range 4 {
		p := moving()
		*listOf(&p, i) = list
		wantRight(t, p, false)
		for _, c := range calls() {
			wantErr(t, c.name, api.ErrArg)(c.do(p))
		}
		wantPart(t, "Clone", p)(reassign.Clone(p), api.OK)
		if !reassign.Same(p, p) || reassign.Same(p, moving()) {
			t.Error("Same of long lists")
		}
	}
	wantErr(t, "Alter", api.ErrArg)(reassign.Alter(known(), 1, 3, 5, list, list))
	wantErr(t, "Begin", api.ErrArg)(reassign.Begin(known(), list, list))
	wantErr(t, "Begin", api.ErrNone)(reassign.Begin(known(), l(7), list))
	wantPart(t, "Fence", at(2, 4, 6, l(2), l(1, 2, 3)))(reassign.Fence(known(), 1, list))
	wantPart(t, "Fence", at(2, 4, 6, l(2), l(1, 2, 3)))(reassign.Fence(known(), 1, append(list, 2)))
}

// call is one of the calls that turn a state, with arguments that moving or known can do with.
type call struct {
	name string
	do   func(api.Part) (api.Part, api.Errno)
}

// calls have some that are refused by right states, too: a state that is not right is told first.
func calls() []call {
	up := l(1, 2, 3, 4)
	return []call{
		{"Elect", func(p api.Part) (api.Part, api.Errno) { return reassign.Elect(p, 2) }},
		{"Elect of none", func(p api.Part) (api.Part, api.Errno) { return reassign.Elect(p, 0) }},
		{"Elect of 7", func(p api.Part) (api.Part, api.Errno) { return reassign.Elect(p, 7) }},
		{"Fence", func(p api.Part) (api.Part, api.Errno) { return reassign.Fence(p, 1, up) }},
		{"Fence of 7", func(p api.Part) (api.Part, api.Errno) { return reassign.Fence(p, 7, up) }},
		{"Back", func(p api.Part) (api.Part, api.Errno) { return reassign.Back(p, 1) }},
		{"Back of 7", func(p api.Part) (api.Part, api.Errno) { return reassign.Back(p, 7) }},
		{"Alter", func(p api.Part) (api.Part, api.Errno) {
			return reassign.Alter(p, p.Leader, p.Epoch, p.Version, l(1, 2), up)
		}},
		{"Alter of an old epoch", func(p api.Part) (api.Part, api.Errno) {
			return reassign.Alter(p, p.Leader, math.MinInt, p.Version, l(1, 2), up)
		}},
		{"Alter of a new epoch", func(p api.Part) (api.Part, api.Errno) {
			return reassign.Alter(p, p.Leader, math.MaxInt, p.Version, l(1, 2), up)
		}},
		{"Alter of another leader", func(p api.Part) (api.Part, api.Errno) {
			return reassign.Alter(p, 6, p.Epoch, p.Version, l(1, 2), up)
		}},
		{"Begin", func(p api.Part) (api.Part, api.Errno) { return reassign.Begin(p, l(2, 4), up) }},
		{"Begin of 7", func(p api.Part) (api.Part, api.Errno) { return reassign.Begin(p, l(7), up) }},
		{"Begin of the same", func(p api.Part) (api.Part, api.Errno) { return reassign.Begin(p, p.Replicas, up) }},
		{"Finish", func(p api.Part) (api.Part, api.Errno) { return reassign.Finish(p, up) }},
		{"Cancel", func(p api.Part) (api.Part, api.Errno) { return reassign.Cancel(p, up) }},
	}
}

// wrong are states of which one thing each is not right.
func wrong() []api.Part {
	list := []api.Part{{}}
	for _, p := range []api.Part{known(), moving(), at(1, most, most, l(1, 2), l(1, 2, 3)), at(0, 3, 5, l(1, 2), l(1, 2, 3))} {
		for _, spoil := range []func(*api.Part){
			func(p *api.Part) { p.Id = 0 }, func(p *api.Part) { p.Id = 17 },
			func(p *api.Part) { p.Min = 0 }, func(p *api.Part) { p.Min = 6 },
			func(p *api.Part) { p.Epoch = 0 }, func(p *api.Part) { p.Epoch = most + 1 },
			func(p *api.Part) { p.Version = 0 }, func(p *api.Part) { p.Version = most + 1 },
			func(p *api.Part) { p.Version = math.MaxInt }, func(p *api.Part) { p.Epoch = math.MaxInt },
			func(p *api.Part) { p.Leader = 3 }, func(p *api.Part) { p.Leader = 7 }, func(p *api.Part) { p.Leader = -1 },
			func(p *api.Part) { p.Isr = nil }, func(p *api.Part) { p.Isr = l(1, 2, 5) },
			func(p *api.Part) { p.Isr = l(1, 2, 1) }, func(p *api.Part) { p.Isr = l(1, 2, 0) },
			func(p *api.Part) { p.Replicas = nil }, func(p *api.Part) { p.Replicas = l(1, 3, 4) },
			func(p *api.Part) { p.Replicas = append(p.Replicas, 8) }, func(p *api.Part) { p.Replicas = append(p.Replicas, 2) },
			func(p *api.Part) { p.Adding = l(6) }, func(p *api.Part) { p.Adding = l(2, 2) },
			func(p *api.Part) { p.Removing = l(6) }, func(p *api.Part) { p.Removing = l(1, 1) },
			func(p *api.Part) { p.Removing = slices.Clone(p.Replicas) },
			func(p *api.Part) { p.Adding, p.Removing = l(1), l(1) },
		} {
			q := reassign.Clone(p)
			spoil(&q)
			list = append(list, q)
		}
	}
	return list
}

func TestAStateThatIsNotRight(t *testing.T) {
	for _, p := range wrong() {
		wantRight(t, p, false)
		for _, c := range calls() {
			wantErr(t, c.name+" of "+told(p), api.ErrArg)(c.do(p))
		}
	}
}

// M1: Clone and Same

func TestCloneIsAllOfIt(t *testing.T) {
	full := api.Part{Id: 9, Leader: 8, Epoch: -7, Version: 6, Isr: l(5, 5, 4), Replicas: l(3, math.MinInt), Adding: l(2), Removing: l(1, 0), Min: -9}
	for _, p := range append(wrong(), full, known(), moving(), api.Part{}) {
		wantPart(t, "Clone", p)(reassign.Clone(p), api.OK)
	}
}

func TestSameOfNumbers(t *testing.T) {
	for _, of := range []func(*api.Part) *int{
		func(p *api.Part) *int { return &p.Id },
		func(p *api.Part) *int { return &p.Leader },
		func(p *api.Part) *int { return &p.Epoch },
		func(p *api.Part) *int { return &p.Version },
		func(p *api.Part) *int { return &p.Min },
	} {
		for _, n := range append(wild(), 0, 7, 8) {
			a, b := moving(), moving()
			*of(&a) = n
			wantSame(t, a, b, false)
			*of(&b) = n
			wantSame(t, a, b, true)
		}
	}
}

// wantSame asks Same both ways.
func wantSame(t *testing.T, a, b api.Part, want bool) {
	t.Helper()
	if reassign.Same(a, b) != want || reassign.Same(b, a) != want {
		t.Errorf("Same of %s and %s is not %v", told(a), told(b), want)
	}
}

func TestSameOfLists(t *testing.T) {
	some := [][]int{nil, l(1), l(2), l(1, 2), l(2, 1), l(1, 1), l(1, 2, 3), l(1, 3, 2), l(0), l(-1, 9), l(1, 2, 3, 4, 5, 6, 7, 8)}
	for i := range 4 {
		for j, one := range some {
			for k, other := range some {
				a, b := moving(), moving()
				*listOf(&a, i), *listOf(&b, i) = slices.Clone(one), slices.Clone(other)
				wantSame(t, a, b, j == k)
			}
		}
		a, b := moving(), moving()
		*listOf(&a, i), *listOf(&b, i) = nil, l()
		wantSame(t, a, b, true)
		// What lies behind a list's length is none of it.
		*listOf(&a, i), *listOf(&b, i) = l(1, 2, 3)[:2], l(1, 2, 4)[:2]
		wantSame(t, a, b, true)
	}
	wantSame(t, api.Part{}, api.Part{}, true)
	// One list's ids in another's place.
	a, b := known(), known()
	a.Adding, b.Removing = l(3), l(3)
	wantSame(t, a, b, false)
}
