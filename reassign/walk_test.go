package reassign_test

import (
	"math"
	"math/rand"
	"slices"
	"strconv"
	"testing"

	"logboom/api"
	"logboom/reassign"
)

// The document's calls as plainly as they can be written, over sets: the walks hold the calls against them.

type set map[int]bool

func setOf(list []int) set {
	s := set{}
	for _, id := range list {
		s[id] = true
	}
	return s
}

// in is what of a list is in a set, out what is not.
func in(list []int, s set) []int {
	return slices.DeleteFunc(slices.Clone(list), func(id int) bool { return !s[id] })
}

func out(list []int, s set) []int {
	return slices.DeleteFunc(slices.Clone(list), func(id int) bool { return s[id] })
}

func isId(id int) bool { return 1 <= id && id <= 7 }

func isRightList(list []int) bool {
	return len(setOf(list)) == len(list) && !slices.ContainsFunc(list, func(id int) bool { return !isId(id) })
}

func paperRight(p api.Part) bool {
	for _, x := range [][2]int{{p.Id, 16}, {p.Min, 5}, {p.Epoch, 1000000000}, {p.Version, 1000000000}} {
		if x[0] < 1 || x[0] > x[1] {
			return false
		}
	}
	for i := range 4 {
		if !isRightList(*listOf(&p, i)) || len(out(*listOf(&p, i), setOf(p.Replicas))) > 0 {
			return false
		}
	}
	switch {
	case len(p.Replicas) < 1, len(p.Replicas) > 7, len(p.Isr) < 1:
		return false
	case len(in(p.Removing, setOf(p.Adding))) > 0, len(p.Removing) == len(p.Replicas):
		return false
	}
	return p.Leader == 0 || setOf(p.Isr)[p.Leader]
}

// paper is a state that is being turned, and what it was.
type paper struct {
	api.Part
	was     api.Part
	changed bool
}

func paperOf(p api.Part) *paper { return &paper{Part: p, was: p} }

func (x *paper) giveWay(u set) {
	leader := x.Leader
	x.Leader = 0
	for i := len(x.Replicas) - 1; i >= 0; i-- {
		if id := x.Replicas[i]; setOf(x.Isr)[id] && u[id] && id != leader {
			x.Leader = id
		}
	}
	x.changed = true
}

func (x *paper) end() (api.Part, api.Errno) {
	if x.Leader != x.was.Leader {
		x.Epoch, x.changed = x.Epoch+1, true
	}
	if x.changed {
		x.Version++
	}
	if x.Epoch > 1000000000 || x.Version > 1000000000 {
		return api.Part{}, api.ErrOver
	}
	return x.Part, api.OK
}

func (x *paper) refused(e api.Errno) (api.Part, api.Errno) { return api.Part{}, e }

func (x *paper) isOpen() bool { return len(x.Adding)+len(x.Removing) > 0 }

// wish is a call and what is handed in beside the state.
type wish struct {
	name                           string
	broker, leader, epoch, version int
	list, up                       []int
}

func (w wish) String() string {
	return w.name + " broker " + strconv.Itoa(w.broker) + " leader " + strconv.Itoa(w.leader) + " epoch " + strconv.Itoa(w.epoch) + " version " + strconv.Itoa(w.version) + " list " + told(api.Part{Isr: w.list, Replicas: w.up})
}

func names() []string {
	return []string{"Elect", "Fence", "Back", "Alter", "Begin", "Finish", "Cancel"}
}

// done is what the call answers.
func (w wish) done(p api.Part) (api.Part, api.Errno) {
	switch w.name {
	case "Elect":
		return reassign.Elect(p, w.broker)
	case "Fence":
		return reassign.Fence(p, w.broker, w.up)
	case "Back":
		return reassign.Back(p, w.broker)
	case "Alter":
		return reassign.Alter(p, w.leader, w.epoch, w.version, w.list, w.up)
	case "Begin":
		return reassign.Begin(p, w.list, w.up)
	case "Finish":
		return reassign.Finish(p, w.up)
	}
	return reassign.Cancel(p, w.up)
}

// onPaper is what the document asks that it answers.
func (w wish) onPaper(p api.Part) (api.Part, api.Errno) {
	x := paperOf(p)
	if !paperRight(p) {
		return x.refused(api.ErrArg)
	}
	switch w.name {
	case "Elect":
		return w.elect(x)
	case "Fence":
		return w.fence(x)
	case "Back":
		if !isId(w.broker) {
			return x.refused(api.ErrArg)
		}
		if x.Leader == 0 && setOf(x.Isr)[w.broker] {
			x.Leader = w.broker
		}
		return x.end()
	case "Alter":
		return w.alter(x)
	case "Begin":
		return w.begin(x)
	case "Finish":
		return w.finish(x)
	}
	return w.cancel(x)
}

func (w wish) elect(x *paper) (api.Part, api.Errno) {
	if w.broker != 0 && !isId(w.broker) {
		return x.refused(api.ErrArg)
	}
	if w.broker != 0 && !setOf(x.Isr)[w.broker] {
		return x.refused(api.ErrState)
	}
	x.Leader = w.broker
	return x.end()
}

func (w wish) fence(x *paper) (api.Part, api.Errno) {
	if !isId(w.broker) {
		return x.refused(api.ErrArg)
	}
	u := setOf(w.up)
	delete(u, w.broker)
	alone := slices.Equal(x.Isr, l(w.broker))
	if setOf(x.Isr)[w.broker] && !alone {
		x.Isr = out(x.Isr, set{w.broker: true})
		x.changed = true
	}
	if x.Leader == w.broker && alone {
		x.Leader = 0
	} else if x.Leader == w.broker {
		x.giveWay(u)
	}
	return x.end()
}

func (w wish) alter(x *paper) (api.Part, api.Errno) {
	if w.epoch < x.Epoch || w.epoch == x.Epoch && w.version < x.Version {
		return x.refused(api.ErrFenced)
	}
	if w.epoch > x.Epoch || w.version > x.Version {
		return x.refused(api.ErrNewer)
	}
	if w.leader == 0 || w.leader != x.Leader {
		return x.refused(api.ErrState)
	}
	if len(w.list) == 0 || !isRightList(w.list) || !setOf(w.list)[w.leader] {
		return x.refused(api.ErrArg)
	}
	for _, id := range w.list {
		if !setOf(x.Replicas)[id] || !setOf(x.Isr)[id] && !setOf(w.up)[id] {
			return x.refused(api.ErrArg)
		}
	}
	x.Isr = in(x.Replicas, setOf(w.list))
	x.changed = true
	return x.end()
}

func (w wish) begin(x *paper) (api.Part, api.Errno) {
	if !isRightList(w.list) || len(w.list) == 0 || len(w.list) > 5 {
		return x.refused(api.ErrArg)
	}
	if x.isOpen() {
		return x.refused(api.ErrState)
	}
	x.Adding = out(w.list, setOf(x.Replicas))
	if len(out(x.Adding, setOf(w.up))) > 0 {
		return x.refused(api.ErrNone)
	}
	x.Removing = out(x.Replicas, setOf(w.list))
	x.changed = !slices.Equal(x.Replicas, w.list)
	x.Replicas = slices.Concat(w.list, x.Removing)
	return x.end()
}

func (w wish) finish(x *paper) (api.Part, api.Errno) {
	targets := out(x.Replicas, setOf(x.Removing))
	if !x.isOpen() || len(in(targets, setOf(x.Isr))) < len(targets) {
		return x.refused(api.ErrState)
	}
	x.Replicas, x.Adding, x.Removing = targets, nil, nil
	x.Isr = in(x.Isr, setOf(targets))
	x.changed = true
	if x.Leader != 0 && !setOf(targets)[x.Leader] {
		x.giveWay(setOf(w.up))
	}
	return x.end()
}

func (w wish) cancel(x *paper) (api.Part, api.Errno) {
	adding := setOf(x.Adding)
	if !x.isOpen() || len(in(x.Isr, adding)) == len(x.Isr) {
		return x.refused(api.ErrState)
	}
	x.Replicas, x.Isr, x.Adding, x.Removing = out(x.Replicas, adding), out(x.Isr, adding), nil, nil
	x.changed = true
	if adding[x.Leader] {
		x.giveWay(setOf(w.up))
	}
	return x.end()
}

// wantAsOnPaper asks that a call answers what the document asks, and that M9 holds: what it answered.
func wantAsOnPaper(t *testing.T, p api.Part, w wish) (api.Part, api.Errno) {
	t.Helper()
	got, e := w.done(p)
	want, f := w.onPaper(p)
	if e != f || !isOne(got, want) {
		t.Fatalf("%v of %s: got %s, %d, want %s, %d", w, told(p), told(got), int(e), told(want), int(f))
	}
	if e == api.OK {
		wantTurned(t, p, w, got)
	}
	return got, e
}

// isOne is told by the fields, not by the call that is tested.
func isOne(a, b api.Part) bool {
	for i := range 4 {
		if !slices.Equal(*listOf(&a, i), *listOf(&b, i)) {
			return false
		}
	}
	return [5]int{a.Id, a.Leader, a.Epoch, a.Version, a.Min} == [5]int{b.Id, b.Leader, b.Epoch, b.Version, b.Min}
}

// wantTurned asks what follows of each call (M9), and that the answer is right (M1).
func wantTurned(t *testing.T, p api.Part, w wish, got api.Part) {
	t.Helper()
	fail := func(why string) {
		t.Helper()
		t.Fatalf("%s: %v of %s made %s", why, w, told(p), told(got))
	}
	if !paperRight(got) || !reassign.Right(got) {
		fail("not right")
	}
	if got.Id != p.Id || got.Min != p.Min {
		fail("another partition")
	}
	if got.Epoch < p.Epoch || got.Version < p.Version {
		fail("Epoch or Version went down")
	}
	if (got.Epoch == p.Epoch) != (got.Leader == p.Leader) {
		fail("the leader is another one, and the epoch not, or the other way")
	}
	if (got.Version == p.Version) != isOne(got, p) {
		fail("a change without a version, or a version without a change")
	}
	if got.Leader != p.Leader && got.Leader != 0 && !(setOf(p.Isr)[got.Leader] && setOf(got.Isr)[got.Leader]) {
		fail("the new leader was not in sync")
	}
	if len(got.Isr) == 0 {
		fail("nobody is in sync")
	}
	dropped := out(p.Replicas, setOf(got.Replicas))
	targets := out(p.Replicas, setOf(p.Removing))
	switch w.name {
	case "Finish":
		if len(out(targets, setOf(p.Isr))) > 0 {
			fail("not all targets were in sync")
		}
	case "Cancel":
		if len(out(dropped, setOf(p.Adding))) > 0 {
			fail("an old replica was dropped")
		}
	default:
		if len(dropped) > 0 {
			fail("a replica was dropped")
		}
	}
}

// rows are all lists of some of 1 to n, in each order.
func rows(n int) [][]int {
	list := [][]int{nil}
	for i := 0; i < len(list); i++ {
		for id := 1; id <= n; id++ {
			if !slices.Contains(list[i], id) {
				list = append(list, append(slices.Clone(list[i]), id))
			}
		}
	}
	return list
}

// TestAllOfThreeBrokers goes through all states of three brokers: each is held against Right, and the right ones are turned by calls with a fourth broker, too.
func TestAllOfThreeBrokers(t *testing.T) {
	lists := rows(3)
	count := 0
	for _, isr := range lists {
		for _, replicas := range lists {
			for _, adding := range lists {
				for _, removing := range lists {
					for leader := range 4 {
						p := at(leader, 3, 5, isr, replicas, adding, removing)
						right := paperRight(p)
						wantRight(t, p, right)
						if right {
							count++
							allCalls(t, p, count)
						}
					}
				}
			}
		}
	}
	if count < 1000 {
		t.Errorf("only %d states were right", count)
	}
}

// allCalls turns a state by each call, whoever of four is up; lists take turns by a count, as all with all would be too many.
func allCalls(t *testing.T, p api.Part, count int) {
	t.Helper()
	lists := rows(4)
	for i := range 16 {
		var up []int
		for id := 1; id <= 4; id++ {
			if i>>(id-1)&1 == 1 {
				up = append(up, id)
			}
		}
		for _, name := range names() {
			wantAsOnPaper(t, p, wish{name, i % 5, p.Leader, p.Epoch, p.Version, lists[(count*5+i)%len(lists)], up})
		}
		for id := range 5 {
			wantAsOnPaper(t, p, wish{name: "Fence", broker: id, up: up})
		}
	}
}

// draws are what the walks are made of.
type draws struct{ *rand.Rand }

func (r draws) of(list ...int) int { return list[r.Intn(len(list))] }

// ids is some of 1 to 7, in a drawn order; now and then one that is none, or is twice.
func (r draws) ids(few int) []int {
	list := r.Perm(7)[:r.Intn(few+1)]
	for i := range list {
		list[i]++
	}
	if r.Intn(20) == 0 {
		list = append(list, r.of(0, 8, -1, 1, 2, 3, math.MinInt, math.MaxInt))
	}
	return list
}

// wish is a call that may be one of those that a state is waiting for.
func (r draws) wish(p api.Part) wish {
	w := wish{name: names()[r.Intn(7)], broker: r.of(0, 1, 2, 3, 4, 5, 6, 7, r.of(wild()...)), leader: p.Leader, epoch: p.Epoch, version: p.Version, list: r.ids(5), up: r.ids(7)}
	if r.Intn(3) > 0 {
		w.up = l(1, 2, 3, 4, 5, 6, 7)
	}
	if w.name == "Alter" && r.Intn(5) > 0 {
		w.list = in(r.ids(7), setOf(p.Replicas))
		if p.Leader != 0 && !slices.Contains(w.list, p.Leader) {
			w.list = append(w.list, p.Leader)
		}
		if r.Intn(3) == 0 {
			w.list = p.Replicas
		}
	}
	switch r.Intn(20) {
	case 0:
		w.epoch += r.of(1, -1, math.MinInt)
	case 1:
		w.version += r.of(1, -1, math.MaxInt)
	case 2:
		w.leader = r.of(0, 1, 2, 3, 9)
	}
	return w
}

// TestWalks turns states by drawn calls, one after the other, some of them near the most.
func TestWalks(t *testing.T) {
	r := draws{rand.New(rand.NewSource(11))}
	done := map[string]int{}
	for range 400 {
		p := api.Part{Id: 1 + r.Intn(16), Epoch: r.of(1, 7, most-9, most), Version: r.of(1, 9, most-40), Min: 1 + r.Intn(5)}
		p.Replicas = rows(3)[1+r.Intn(15)]
		p.Isr = slices.Clone(p.Replicas[:1+r.Intn(len(p.Replicas))])
		p.Leader = r.of(0, p.Isr[0])
		for range 200 {
			w := r.wish(p)
			got, e := wantAsOnPaper(t, p, w)
			done[w.name+" "+strconv.Itoa(int(e))]++
			if e == api.OK {
				if !isOne(got, p) {
					done[w.name]++
				}
				p = got
			}
		}
	}
	for _, name := range names() {
		if done[name] < 100 || done[name+" "+strconv.Itoa(int(api.ErrOver))] == 0 {
			t.Errorf("%s: hardly done: %v", name, done)
		}
	}
}

// TestDrawnStates takes states that are right or nearly so, of all brokers.
func TestDrawnStates(t *testing.T) {
	r := draws{rand.New(rand.NewSource(12))}
	right := 0
	for range 100000 {
		p := api.Part{Id: r.of(1, 16, 3, 17), Epoch: r.of(1, 5, most, most-1), Version: r.of(1, 5, most, most-1, 2), Min: r.of(1, 5, 2, 3)}
		p.Replicas = r.ids(7)
		p.Isr, p.Adding = in(r.ids(7), setOf(p.Replicas)), in(r.ids(3), setOf(p.Replicas))
		p.Removing = in(r.ids(5), setOf(out(p.Replicas, setOf(p.Adding))))
		if r.Intn(20) == 0 {
			p.Removing = r.ids(3)
		}
		p.Leader = r.of(append(p.Isr[:len(p.Isr):len(p.Isr)], 0, r.of(0, 1, 2, 3, 4, 5, 6, 7, 8, -1))...)
		if paperRight(p) {
			right++
		}
		wantRight(t, p, paperRight(p))
		wantAsOnPaper(t, p, r.wish(p))
	}
	if right < 20000 || right > 90000 {
		t.Errorf("%d states were right", right)
	}
}
