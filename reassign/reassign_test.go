package reassign_test

import (
	"fmt"
	"math"
	"slices"
	"strconv"
	"strings"
	"testing"

	"logboom/api"
	"logboom/reassign"
)

func TestTheDocumentsExamples(t *testing.T) {
	p, up := known(), l(1, 2, 3, 4)
	wantPart(t, "Fence", at(2, 4, 6, l(2), l(1, 2, 3)))(reassign.Fence(p, 1, up))
	wantPart(t, "Alter", at(1, 3, 6, l(1, 2, 3), l(1, 2, 3)))(reassign.Alter(p, 1, 3, 5, l(3, 1, 2), up))
	wantErr(t, "an older version", api.ErrFenced)(reassign.Alter(p, 1, 3, 4, l(1), up))
	wantErr(t, "a newer epoch", api.ErrNewer)(reassign.Alter(p, 1, 4, 5, l(1), up))
	wantErr(t, "without the leader", api.ErrArg)(reassign.Alter(p, 1, 3, 5, l(2), up))
	wantPart(t, "Begin", moving())(reassign.Begin(p, l(2, 4), up))
	inSync := at(1, 3, 7, l(2, 4, 1), l(2, 4, 1, 3), l(4), l(1, 3))
	wantPart(t, "then Alter", inSync)(reassign.Alter(moving(), 1, 3, 6, l(1, 2, 4), up))
	wantPart(t, "then Finish", at(2, 4, 8, l(2, 4), l(2, 4)))(reassign.Finish(inSync, up))
	wantErr(t, "Elect of 3", api.ErrState)(reassign.Elect(p, 3))
	wantPart(t, "Elect of 2", at(2, 4, 6, l(1, 2), l(1, 2, 3)))(reassign.Elect(p, 2))
}

// M2: Elect

func TestElect(t *testing.T) {
	p := known()
	wantPart(t, "none", at(0, 4, 6, l(1, 2), l(1, 2, 3)))(reassign.Elect(p, 0))
	wantPart(t, "the leader", p)(reassign.Elect(p, 1))
	p.Leader = 0
	wantPart(t, "none of none", p)(reassign.Elect(p, 0))
	wantPart(t, "one of none", at(1, 4, 6, l(1, 2), l(1, 2, 3)))(reassign.Elect(p, 1))
	// A move stays open; the leader may be one that comes or goes.
	q := at(1, 3, 6, l(2, 4, 1), l(2, 4, 1, 3), l(4), l(1, 3))
	wantPart(t, "one that comes", at(4, 4, 7, l(2, 4, 1), l(2, 4, 1, 3), l(4), l(1, 3)))(reassign.Elect(q, 4))
	q.Leader = 2
	wantPart(t, "one that goes", at(1, 4, 7, l(2, 4, 1), l(2, 4, 1, 3), l(4), l(1, 3)))(reassign.Elect(q, 1))
	q.Id, q.Min = 16, 5
	want := at(1, 4, 7, l(2, 4, 1), l(2, 4, 1, 3), l(4), l(1, 3))
	want.Id, want.Min = 16, 5
	wantPart(t, "Id and Min stay", want)(reassign.Elect(q, 1))
}

func TestElectRefuses(t *testing.T) {
	for _, id := range noIds() {
		if id != 0 {
			wantErr(t, "no id "+strconv.Itoa(id), api.ErrArg)(reassign.Elect(known(), id))
		}
	}
	for _, id := range l(3, 4, 5, 6, 7) {
		wantErr(t, "not in sync "+strconv.Itoa(id), api.ErrState)(reassign.Elect(known(), id))
	}
}

// M3: Fence

func TestFence(t *testing.T) {
	p := known()
	all := l(1, 2, 3)
	wantPart(t, "a follower", at(1, 3, 6, l(1), all))(reassign.Fence(p, 2, all))
	wantPart(t, "not in sync", p)(reassign.Fence(p, 3, all))
	wantPart(t, "no replica", p)(reassign.Fence(p, 4, all))
	wantPart(t, "the heir is not up", at(0, 4, 6, l(2), all))(reassign.Fence(p, 1, l(1, 3)))
	wantPart(t, "nobody is up", at(0, 4, 6, l(2), all))(reassign.Fence(p, 1, nil))
	wantPart(t, "of a follower it is no matter who is up", at(1, 3, 6, l(1), all))(reassign.Fence(p, 2, nil))
	alone := at(2, 3, 5, l(2), all)
	wantPart(t, "alone, leads", at(0, 4, 6, l(2), all))(reassign.Fence(alone, 2, all))
	wantPart(t, "another one than that alone", alone)(reassign.Fence(alone, 1, all))
	alone.Leader = 0
	wantPart(t, "alone, does not lead", alone)(reassign.Fence(alone, 2, all))
	p.Leader = 0
	wantPart(t, "without a leader", at(0, 3, 6, l(2), all))(reassign.Fence(p, 1, all))
}

func TestFenceTakesTheFirstOfReplicas(t *testing.T) {
	p := at(1, 3, 5, l(5, 2, 7, 1, 4), l(6, 1, 7, 4, 2, 5, 3))
	left := l(5, 2, 7, 4)
	for _, c := range []struct {
		up     []int
		leader int
	}{
		{l(1, 2, 3, 4, 5, 6, 7), 7}, {l(2, 4, 5), 4}, {l(5, 2), 2}, {l(5), 5}, {l(6, 3, 1), 0}, {l(6, 3, 1, 2), 2},
		// As a set: what is no id, or twice, does no harm.
		{l(-1, 5, 0, 5, 9, 4, 4, math.MinInt, math.MaxInt, 1, 1), 4}, {l(0, 0, 8, -7), 0},
	} {
		want := at(c.leader, 4, 6, left, p.Replicas)
		wantPart(t, "up "+told(api.Part{Isr: c.up}), want)(reassign.Fence(p, 1, c.up))
	}
	// Isr stays in its order, and a move as it is.
	q := at(4, 3, 5, l(5, 4, 1), l(4, 1, 5, 2), l(4), l(2))
	wantPart(t, "of a move", at(1, 4, 6, l(5, 1), l(4, 1, 5, 2), l(4), l(2)))(reassign.Fence(q, 4, l(5, 4, 1)))
}

func TestFenceRefuses(t *testing.T) {
	for _, id := range noIds() {
		wantErr(t, "no id "+strconv.Itoa(id), api.ErrArg)(reassign.Fence(known(), id, l(1, 2, 3)))
	}
}

// M4: Back

func TestBack(t *testing.T) {
	p := known()
	for id := 1; id <= 7; id++ {
		wantPart(t, "there is a leader", p)(reassign.Back(p, id))
	}
	p.Leader = 0
	for id := 3; id <= 7; id++ {
		wantPart(t, "not in sync", p)(reassign.Back(p, id))
	}
	for _, id := range l(1, 2) {
		wantPart(t, "in sync", at(id, 4, 6, l(1, 2), l(1, 2, 3)))(reassign.Back(p, id))
	}
	q := at(0, 1, 1, l(4, 1), l(2, 4, 1), l(4), l(1))
	wantPart(t, "of a move", at(4, 2, 2, l(4, 1), l(2, 4, 1), l(4), l(1)))(reassign.Back(q, 4))
}

func TestBackRefuses(t *testing.T) {
	p := known()
	for _, p.Leader = range l(0, 1) {
		for _, id := range noIds() {
			wantErr(t, "no id "+strconv.Itoa(id), api.ErrArg)(reassign.Back(p, id))
		}
	}
}

// M5: Alter

func TestAlter(t *testing.T) {
	p := at(4, 3, 5, l(5, 4), l(6, 4, 2, 5, 1), l(2), l(5, 1))
	as := func(isr ...int) api.Part { return at(4, 3, 6, isr, p.Replicas, p.Adding, p.Removing) }
	wantPart(t, "others", as(6, 4, 2))(reassign.Alter(p, 4, 3, 5, l(2, 4, 6), l(2, 6)))
	wantPart(t, "all", as(6, 4, 2, 5, 1))(reassign.Alter(p, 4, 3, 5, l(1, 2, 4, 5, 6), l(1, 2, 6)))
	wantPart(t, "the leader alone", as(4))(reassign.Alter(p, 4, 3, 5, l(4), nil))
	wantPart(t, "the same: a change, in the order of Replicas", as(4, 5))(reassign.Alter(p, 4, 3, 5, l(5, 4), nil))
	wantPart(t, "in sync, though not up", as(4, 2, 5))(reassign.Alter(p, 4, 3, 5, l(2, 5, 4), l(2)))
	wantPart(t, "up is a set", as(4, 2))(reassign.Alter(p, 4, 3, 5, l(2, 4), l(0, 9, 2, 2, -5, math.MinInt)))
}

func TestAlterOfAnotherEpoch(t *testing.T) {
	p := at(1, 30, 50, l(1, 2), l(1, 2, 3))
	const fenced, newer = api.ErrFenced, api.ErrNewer
	for _, c := range []struct {
		epoch, version int
		want           api.Errno
	}{
		{29, 50, fenced}, {29, 51, fenced}, {29, 49, fenced}, {1, math.MaxInt, fenced}, {math.MinInt, 50, fenced}, {0, 0, fenced}, {-1, 50, fenced},
		{30, 49, fenced}, {30, 0, fenced}, {30, -50, fenced}, {30, math.MinInt, fenced},
		{30, 51, newer}, {30, math.MaxInt, newer}, {31, 50, newer}, {31, 51, newer}, {31, 49, newer}, {31, math.MinInt, newer}, {math.MaxInt, 50, newer}, {math.MaxInt, 0, newer},
	} {
		// Of whom, and what is wished, comes behind that.
		for _, leader := range l(1, 2, 0, -1) {
			for _, isr := range [][]int{l(1, 2), l(2), nil, l(1, 9)} {
				wantErr(t, "epoch "+strconv.Itoa(c.epoch)+" version "+strconv.Itoa(c.version), c.want)(reassign.Alter(p, leader, c.epoch, c.version, isr, l(1, 2, 3)))
			}
		}
	}
}

func TestAlterOfNoLeader(t *testing.T) {
	p := known()
	for _, isr := range [][]int{l(1, 2), l(2), nil, l(1, 1), l(1, 9)} {
		for _, leader := range append(noIds(), 2, 3, 4, 7) {
			wantErr(t, "leader "+strconv.Itoa(leader), api.ErrState)(reassign.Alter(p, leader, 3, 5, isr, l(1, 2, 3)))
		}
	}
	p.Leader = 0
	for _, leader := range append(noIds(), 1, 2, 3, 7) {
		for _, isr := range [][]int{l(1, 2), l(0, 1), nil} {
			wantErr(t, "leader "+strconv.Itoa(leader), api.ErrState)(reassign.Alter(p, leader, 3, 5, isr, l(1, 2, 3)))
		}
	}
}

func TestAlterOfASetThatMayNotBe(t *testing.T) {
	p := at(1, 3, 5, l(1, 2), l(1, 2, 3, 4))
	all := l(1, 2, 3, 4, 5, 6, 7, 0, 8, -1)
	for _, isr := range [][]int{
		nil, l(), l(2), l(2, 3), l(1, 1), l(1, 2, 2), l(2, 1, 3, 2), l(1, 0), l(0, 1), l(1, 8), l(1, -1), l(1, math.MinInt), l(1, math.MaxInt),
		l(1, 5), l(7, 1, 2), l(1, 2, 3, 4, 5), l(1, 2, 3, 4, 1), l(1, 2, 3, 4, 5, 6, 7), l(1, 2, 3, 4, 5, 6, 7, 8),
	} {
		wantErr(t, told(api.Part{Isr: isr}), api.ErrArg)(reassign.Alter(p, 1, 3, 5, isr, all))
	}
	for _, up := range [][]int{nil, l(1, 2), l(1, 2, 4, 5), l(1, 2, 0, -3, 33)} {
		wantErr(t, "3 is not up", api.ErrArg)(reassign.Alter(p, 1, 3, 5, l(1, 3), up))
		wantErr(t, "3 is not up", api.ErrArg)(reassign.Alter(p, 1, 3, 5, l(4, 3, 2, 1), up))
	}
}

// M6: Begin

func TestBegin(t *testing.T) {
	p := at(1, 3, 5, l(3, 1), l(1, 2, 3))
	as := func(lists ...[]int) api.Part { return at(1, 3, 6, append([][]int{l(3, 1)}, lists...)...) }
	for _, c := range []struct {
		targets, up []int
		want        api.Part
	}{
		{l(1, 2, 3), nil, p},
		{l(2, 1, 3), nil, as(l(2, 1, 3))},
		{l(3, 2, 1), nil, as(l(3, 2, 1))},
		{l(1, 2), nil, as(l(1, 2, 3), nil, l(3))},
		{l(2), nil, as(l(2, 1, 3), nil, l(1, 3))},
		{l(3, 1), nil, as(l(3, 1, 2), nil, l(2))},
		{l(1, 2, 3, 4), l(4), as(l(1, 2, 3, 4), l(4))},
		{l(4, 3, 2, 1), l(4), as(l(4, 3, 2, 1), l(4))},
		{l(5, 1, 4, 2, 3), l(1, 4, 5), as(l(5, 1, 4, 2, 3), l(5, 4))},
		{l(7, 6, 5, 4), l(4, 5, 6, 7), as(l(7, 6, 5, 4, 1, 2, 3), l(7, 6, 5, 4), l(1, 2, 3))},
		{l(7, 3, 6, 5, 4), l(4, 5, 6, 7), as(l(7, 3, 6, 5, 4, 1, 2), l(7, 6, 5, 4), l(1, 2))},
		{l(4), l(-1, 4, 0, 4, 8, math.MaxInt), as(l(4, 1, 2, 3), l(4), l(1, 2, 3))},
	} {
		wantPart(t, "to "+told(api.Part{Isr: c.targets}), c.want)(reassign.Begin(p, c.targets, c.up))
	}
	// Of more than may be asked for.
	seven := at(7, 3, 5, l(7), l(7, 6, 5, 4, 3, 2, 1))
	wantPart(t, "of seven", at(7, 3, 6, l(7), l(2, 4, 7, 6, 5, 3, 1), nil, l(7, 6, 5, 3, 1)))(reassign.Begin(seven, l(2, 4), nil))
	seven.Leader = 0
	wantPart(t, "without a leader", at(0, 3, 6, l(7), l(7, 6, 5, 4, 3, 2, 1), nil, l(2, 1)))(reassign.Begin(seven, l(7, 6, 5, 4, 3), nil))
}

func TestBeginRefuses(t *testing.T) {
	all := l(1, 2, 3, 4, 5, 6, 7, 8, 0, -1)
	for _, targets := range [][]int{
		nil, l(), l(1, 2, 3, 4, 5, 6), l(1, 2, 3, 4, 5, 6, 7), l(1, 1), l(1, 2, 3, 1), l(4, 5, 4), l(0), l(8), l(1, 2, 0), l(1, 8), l(-1, 1), l(math.MinInt), l(math.MaxInt, 2), l(1, 1, 1, 1, 1, 1),
	} {
		for _, p := range []api.Part{known(), moving(), at(1, most, most, l(1), l(1))} {
			wantErr(t, "targets "+told(api.Part{Isr: targets}), api.ErrArg)(reassign.Begin(p, targets, all))
		}
	}
	// Six that are there already are too many, too.
	six := at(1, 1, 1, l(1), l(1, 2, 3, 4, 5, 6))
	wantErr(t, "six", api.ErrArg)(reassign.Begin(six, l(1, 2, 3, 4, 5, 6), all))
	for _, p := range []api.Part{moving(), at(1, 3, 5, l(1), l(1, 2), l(2)), at(1, 3, 5, l(1), l(1, 2), nil, l(2))} {
		wantErr(t, "a move is open", api.ErrState)(reassign.Begin(p, l(1, 2, 3), all))
		wantErr(t, "a move is open, and 5 not up", api.ErrState)(reassign.Begin(p, l(5), nil))
		wantErr(t, "a move is open, to the same", api.ErrState)(reassign.Begin(p, p.Replicas, all))
	}
	for _, up := range [][]int{nil, l(1, 2, 3), l(1, 2, 3, 4), l(5, 0, -5)} {
		wantErr(t, "4 and 5", api.ErrNone)(reassign.Begin(known(), l(1, 4, 5), up))
	}
}

// M7: Finish

func TestFinish(t *testing.T) {
	for _, c := range []struct {
		what    string
		p, want api.Part
		up      []int
	}{
		{"the leader stays", at(4, 3, 5, l(1, 4, 2), l(2, 4, 1, 3), l(4), l(1, 3)), at(4, 3, 6, l(4, 2), l(2, 4)), nil},
		{"the leader goes", at(1, 3, 5, l(1, 4, 2), l(2, 4, 1, 3), l(4), l(1, 3)), at(2, 4, 6, l(4, 2), l(2, 4)), l(1, 2, 3, 4)},
		{"the first target is not up", at(1, 3, 5, l(1, 4, 2), l(2, 4, 1, 3), l(4), l(1, 3)), at(4, 4, 6, l(4, 2), l(2, 4)), l(1, 3, 4)},
		{"no target is up", at(1, 3, 5, l(1, 4, 2), l(2, 4, 1, 3), l(4), l(1, 3)), at(0, 4, 6, l(4, 2), l(2, 4)), l(1, 3, 0, 9)},
		{"no leader", at(0, 3, 5, l(1, 4, 2), l(2, 4, 1, 3), l(4), l(1, 3)), at(0, 3, 6, l(4, 2), l(2, 4)), l(1, 2, 3, 4)},
		{"new ones alone", at(1, 3, 5, l(2, 1), l(1, 2), l(2), nil), at(1, 3, 6, l(2, 1), l(1, 2)), nil},
		{"fewer alone", at(2, 3, 5, l(1, 2), l(1, 2), nil, l(2)), at(1, 4, 6, l(1), l(1)), l(1)},
		{"fewer alone, of which one was not in sync", at(1, 3, 5, l(1), l(1, 2), nil, l(2)), at(1, 3, 6, l(1), l(1)), nil},
		{"targets behind", at(1, 3, 5, l(5, 1, 3), l(1, 3, 2, 5), nil, l(1, 2)), at(3, 4, 6, l(5, 3), l(3, 5)), l(5, 3)},
	} {
		wantPart(t, c.what, c.want)(reassign.Finish(c.p, c.up))
	}
}

func TestFinishRefuses(t *testing.T) {
	all := l(1, 2, 3, 4, 5, 6, 7)
	for what, p := range map[string]api.Part{
		"no move":                   known(),
		"no move, all in sync":      at(1, 3, 5, l(1, 2), l(1, 2)),
		"a new one is not in sync":  moving(),
		"an old one is not in sync": at(1, 3, 5, l(4, 1), l(2, 4, 1), l(4), l(1)),
		"fewer, one is not in sync": at(1, 3, 5, l(1, 3), l(1, 2, 3), nil, l(3)),
		"no new one is in sync":     at(1, 3, 5, l(1), l(2, 3, 1), l(2, 3), l(1)),
		"no move, at the most":      at(1, most, most, l(1, 2), l(1, 2)),
		"not in sync, at the most":  at(1, most, most, l(1), l(2, 1), l(2), l(1)),
	} {
		wantErr(t, what, api.ErrState)(reassign.Finish(p, all))
	}
}

// M7: Cancel

func TestCancel(t *testing.T) {
	for _, c := range []struct {
		what    string
		p, want api.Part
		up      []int
	}{
		{"the document's move", moving(), at(1, 3, 7, l(1, 2), l(2, 1, 3)), nil},
		{"the leader stays", at(1, 3, 5, l(1, 4, 2), l(2, 4, 1, 3), l(4), l(1, 3)), at(1, 3, 6, l(1, 2), l(2, 1, 3)), nil},
		{"the leader goes", at(4, 3, 5, l(1, 4, 2), l(4, 2, 1, 3), l(4), l(1, 3)), at(2, 4, 6, l(1, 2), l(2, 1, 3)), l(4, 1, 2)},
		{"the first one left is not up", at(4, 3, 5, l(1, 4, 2), l(4, 2, 1, 3), l(4), l(1, 3)), at(1, 4, 6, l(1, 2), l(2, 1, 3)), l(4, 3, 1)},
		{"none left is up", at(4, 3, 5, l(1, 4, 2), l(4, 2, 1, 3), l(4), l(1, 3)), at(0, 4, 6, l(1, 2), l(2, 1, 3)), l(4, 3)},
		{"the heir is not new, too", at(4, 3, 5, l(5, 4, 1), l(5, 4, 1), l(4, 5), l(1)), at(1, 4, 6, l(1), l(1)), l(1, 4, 5)},
		{"no leader", at(0, 3, 5, l(1, 4), l(4, 1), l(4), l(1)), at(0, 3, 6, l(1), l(1)), l(1, 4)},
		{"new ones alone", at(1, 3, 5, l(1), l(1, 2), l(2), nil), at(1, 3, 6, l(1), l(1)), nil},
		{"fewer alone: all stay", at(2, 3, 5, l(2, 1), l(1, 2), nil, l(2)), at(2, 3, 6, l(2, 1), l(1, 2)), nil},
		{"all targets are in sync", at(1, 3, 5, l(2, 1), l(2, 1), l(2), l(1)), at(1, 3, 6, l(1), l(1)), nil},
	} {
		wantPart(t, c.what, c.want)(reassign.Cancel(c.p, c.up))
	}
}

func TestCancelRefuses(t *testing.T) {
	all := l(1, 2, 3, 4, 5, 6, 7)
	for what, p := range map[string]api.Part{
		"no move":                         known(),
		"one new one is in sync alone":    at(4, 3, 5, l(4), l(2, 4, 1, 3), l(4), l(1, 3)),
		"new ones are in sync alone":      at(0, 3, 5, l(4, 5), l(5, 2, 4, 1, 3), l(4, 5), l(1, 3)),
		"all are new":                     at(1, 3, 5, l(1, 2), l(1, 2), l(2, 1)),
		"no move, at the most":            at(1, most, most, l(1, 2), l(1, 2)),
		"new ones alone, at the most":     at(4, most, most, l(4), l(4, 1), l(4), l(1)),
		"new ones alone, without old one": at(4, 3, 5, l(4), l(1, 4), l(4), nil),
	} {
		wantErr(t, what, api.ErrState)(reassign.Cancel(p, all))
	}
}

// ErrOver, of all

// over is a call that makes a change, and what it makes of Leader.
type over struct {
	call
	p      api.Part
	leader int
}

func overs() []over {
	up := l(1, 2, 3, 4)
	led, none := known(), known()
	none.Leader = 0
	both := at(1, 3, 5, l(1, 4, 2), l(2, 4, 1, 3), l(4), l(1, 3))
	comes := reassign.Clone(both)
	comes.Leader = 4
	elect := func(id int) call {
		return call{"Elect", func(p api.Part) (api.Part, api.Errno) { return reassign.Elect(p, id) }}
	}
	fence := func(id int) call {
		return call{"Fence", func(p api.Part) (api.Part, api.Errno) { return reassign.Fence(p, id, up) }}
	}
	return []over{
		{elect(2), led, 2}, {elect(0), led, 0}, {elect(1), none, 1},
		{fence(1), led, 2}, {fence(2), led, 1}, {fence(1), none, 0}, {fence(1), at(1, 3, 5, l(1), l(1)), 0},
		{call{"Back", func(p api.Part) (api.Part, api.Errno) { return reassign.Back(p, 2) }}, none, 2},
		{call{"Alter", func(p api.Part) (api.Part, api.Errno) {
			return reassign.Alter(p, p.Leader, p.Epoch, p.Version, l(1, 3), up)
		}}, led, 1},
		{call{"Begin", func(p api.Part) (api.Part, api.Errno) { return reassign.Begin(p, l(2, 4), up) }}, led, 1},
		{call{"Begin in another order", func(p api.Part) (api.Part, api.Errno) { return reassign.Begin(p, l(2, 1, 3), up) }}, led, 1},
		{call{"Finish", func(p api.Part) (api.Part, api.Errno) { return reassign.Finish(p, up) }}, both, 2},
		{call{"Finish", func(p api.Part) (api.Part, api.Errno) { return reassign.Finish(p, up) }}, comes, 4},
		{call{"Cancel", func(p api.Part) (api.Part, api.Errno) { return reassign.Cancel(p, up) }}, both, 1},
		{call{"Cancel", func(p api.Part) (api.Part, api.Errno) { return reassign.Cancel(p, up) }}, comes, 2},
	}
}

func TestEpochsAndVersionsAtTheMost(t *testing.T) {
	for i, c := range overs() {
		for _, epoch := range l(1, most-1, most) {
			for _, version := range l(1, most-1, most) {
				p := reassign.Clone(c.p)
				p.Epoch, p.Version = epoch, version
				got, e := c.do(p)
				turned := c.leader != p.Leader
				if version == most || turned && epoch == most {
					wantErr(t, c.name+" "+strconv.Itoa(i), api.ErrOver)(got, e)
					continue
				}
				if turned {
					epoch++
				}
				if e != api.OK || got.Leader != c.leader || got.Epoch != epoch || got.Version != version+1 {
					t.Errorf("%s %d: got %s, %d", c.name, i, told(got), int(e))
				}
				epoch = p.Epoch
			}
		}
	}
}

func TestWhatIsNotChangedIsNotOver(t *testing.T) {
	p := at(1, most, most, l(1, 2), l(1, 2, 3))
	none := at(0, most, most, l(2), l(1, 2, 3))
	up := l(1, 2, 3)
	wantPart(t, "Elect", p)(reassign.Elect(p, 1))
	wantPart(t, "Elect of none", none)(reassign.Elect(none, 0))
	wantPart(t, "Fence", p)(reassign.Fence(p, 3, up))
	wantPart(t, "Fence of one alone", none)(reassign.Fence(none, 2, up))
	wantPart(t, "Back", p)(reassign.Back(p, 2))
	wantPart(t, "Back of one that is not in sync", none)(reassign.Back(none, 1))
	wantPart(t, "Begin", p)(reassign.Begin(p, l(1, 2, 3), nil))
}

func TestOtherErrorsAreAheadOfErrOver(t *testing.T) {
	p := at(1, most, most, l(1, 2), l(1, 2, 3))
	up := l(1, 2, 3)
	wantErr(t, "Elect", api.ErrArg)(reassign.Elect(p, 8))
	wantErr(t, "Elect", api.ErrState)(reassign.Elect(p, 3))
	wantErr(t, "Fence", api.ErrArg)(reassign.Fence(p, 0, up))
	wantErr(t, "Alter", api.ErrFenced)(reassign.Alter(p, 1, most, most-1, l(1), up))
	wantErr(t, "Alter", api.ErrNewer)(reassign.Alter(p, 1, most, most+1, l(1), up))
	wantErr(t, "Alter", api.ErrState)(reassign.Alter(p, 2, most, most, l(1), up))
	wantErr(t, "Alter", api.ErrArg)(reassign.Alter(p, 1, most, most, l(2), up))
	wantErr(t, "Begin", api.ErrNone)(reassign.Begin(p, l(4), up))
}

// M8: nothing is kept, nothing is written into

// roomy is a copy of a list with room behind it, which holds marks.
func roomy(list []int) []int {
	return append(slices.Clone(list), 77, 78, 79)[:len(list)]
}

// scrawl writes over a list, and over the room behind it.
func scrawl(list []int) {
	for i := range list[:cap(list)] {
		list[:cap(list)][i] = -99
	}
}

func TestNothingIsSharedOrWritten(t *testing.T) {
	both := at(4, 3, 5, l(1, 4, 2), l(2, 4, 1, 3), l(4), l(1, 3))
	none := known()
	none.Leader = 0
	for _, p := range []api.Part{known(), moving(), both, none} {
		for _, c := range calls() {
			wantApart(t, c.name, p, nil, func(p api.Part, _ []int) (api.Part, api.Errno) { return c.do(p) })
		}
		wantApart(t, "Clone", p, nil, func(p api.Part, _ []int) (api.Part, api.Errno) { return reassign.Clone(p), api.OK })
		for _, list := range [][]int{p.Replicas, l(2, 1), l(1, 2, 3), l(2, 3, 1), l(1, 4), l(4, 5, 6, 1, 2)} {
			wantApart(t, "Alter", p, list, func(p api.Part, list []int) (api.Part, api.Errno) {
				return reassign.Alter(p, p.Leader, p.Epoch, p.Version, list, list)
			})
			wantApart(t, "Begin", p, list, func(p api.Part, list []int) (api.Part, api.Errno) { return reassign.Begin(p, list, list) })
			wantApart(t, "Fence", p, list, func(p api.Part, list []int) (api.Part, api.Errno) { return reassign.Fence(p, p.Leader, list) })
			wantApart(t, "Finish", p, list, func(p api.Part, list []int) (api.Part, api.Errno) { return reassign.Finish(p, list) })
			wantApart(t, "Cancel", p, list, func(p api.Part, list []int) (api.Part, api.Errno) { return reassign.Cancel(p, list) })
		}
	}
}

// handed is a state and a list to be handed in, with room behind each of their lists.
type handed struct {
	p    api.Part
	list []int
}

func hand(p api.Part, list []int) handed {
	for i := range 4 {
		*listOf(&p, i) = roomy(*listOf(&p, i))
	}
	return handed{p, roomy(list)}
}

func (h handed) lists() [][]int {
	return [][]int{h.p.Isr, h.p.Replicas, h.p.Adding, h.p.Removing, h.list}
}

// whole is all of the lists, with the room behind them.
func (h handed) whole() string {
	b := strings.Builder{}
	for _, x := range h.lists() {
		fmt.Fprintln(&b, x[:cap(x)])
	}
	return b.String()
}

// wantApart asks that a call writes nothing into what it is handed, that its answer shares nothing with that, and no two lists of the answer anything.
func wantApart(t *testing.T, what string, p api.Part, list []int, do func(api.Part, []int) (api.Part, api.Errno)) {
	t.Helper()
	what += " of " + told(p)
	h := hand(p, list)
	before := h.whole()
	got, _ := do(h.p, h.list)
	if h.whole() != before {
		t.Errorf("%s: it made %s of %s", what, h.whole(), before)
	}
	want := told(got)
	for _, x := range h.lists() {
		scrawl(x)
	}
	if told(got) != want {
		t.Errorf("%s: what was handed in is seen: %s became %s", what, want, told(got))
	}
	h = hand(p, list)
	got, _ = do(h.p, h.list)
	for i := range 4 {
		scrawl(*listOf(&got, i))
		*listOf(&got, i) = nil
		for k := i + 1; k < 4; k++ {
			if slices.Contains(*listOf(&got, k), -99) {
				t.Errorf("%s: lists %d and %d share", what, i, k)
			}
		}
	}
	if h.whole() != before {
		t.Errorf("%s: the answer is seen: %s became %s", what, before, h.whole())
	}
}
