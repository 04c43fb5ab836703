package groups_test

import (
	"math"
	"slices"
	"strconv"
	"strings"
	"testing"

	"logboom/api"
	"logboom/groups"
)

// trio is a machine with the group g: members 1, 2, 3 in the generation 3, of which 1 owns 1 and 2, 2 owns 3 and 4, 3 owns 5.
func trio(t *testing.T) *groups.Groups {
	t.Helper()
	g := groups.New()
	wantTold(t, g, join("g", 0, 1, 2, 3, 4, 5), made(1, 1, 1, 2, 3, 4, 5))
	wantTold(t, g, join("g", 0, 1, 2, 3, 4, 5), made(2, 2, 4, 5))
	wantTold(t, g, join("g", 0, 1, 2, 3, 4, 5), made(3, 3, 5))
	return g
}

func TestTheDocumentsExamples(t *testing.T) {
	g := groups.New()
	wantTold(t, g, join("g", 0, 1, 2, 3), made(1, 1, 1, 2, 3))
	wantTold(t, g, join("g", 0, 1, 2, 3), made(2, 2, 3))
	wantTold(t, g, sync("g", 1, 2), made(1, 2, 1, 2))
	wantErr(t, g, sync("g", 1, 1), api.ErrGen)
	wantTold(t, g, commit("g", 1, 2, 1, 7, 4), groups.Told{Member: 1, Gen: 2, Offset: 7})
	wantErr(t, g, commit("g", 1, 2, 1, 7, 4), api.ErrDuplicate)
	wantTold(t, g, read("g", 1), groups.Told{Gen: 2, Offset: 7})
	wantErr(t, g, commit("g", 2, 2, 1, 9, 0), api.ErrState)
	wantTold(t, g, leave("g", 1), groups.Told{Member: 1, Gen: 3})
	wantTold(t, g, sync("g", 2, 3), made(2, 3, 1, 2, 3))
	wantTold(t, g, read("g", 3), groups.Told{Gen: 3, Offset: -1})
	wantErr(t, g, read("h", 1), api.ErrNone)
}

func TestTheKindsOfRecords(t *testing.T) {
	got := [6]int{groups.Join, groups.Leave, groups.Commit, groups.Read, groups.Epoch, groups.Sync}
	if want := [6]int{1, 2, 3, 4, 5, 6}; got != want {
		t.Errorf("got %v", got)
	}
}

func TestNew(t *testing.T) {
	wantAll(t, "New", groups.New(), &paper{})
	a, b := groups.New(), groups.New()
	a.Apply(join("g", 0, 1))
	a.Apply(epoch(3))
	wantAll(t, "another one", b, &paper{})
}

func TestGroupsThatNewDidNotMake(t *testing.T) {
	g := new(groups.Groups)
	wantAll(t, "zero", g, &paper{})
	for _, m := range []api.Meta{leave("g", 1), commit("g", 1, 1, 1, 1, 1), read("g", 1), sync("g", 1, 1), join("g", 1)} {
		wantErr(t, g, m, api.ErrNone)
	}
	wantErr(t, g, epoch(-1), api.ErrFenced)
	wantTold(t, g, epoch(2), groups.Told{Gen: 2})
	wantTold(t, g, join("g", 0, 3), made(1, 1, 3))
	wantTold(t, g, commit("g", 1, 1, 3, 4, 0), groups.Told{Member: 1, Gen: 1, Offset: 4})
}

func TestARecordOfNoKind(t *testing.T) {
	g := trio(t)
	for _, kind := range append(wild(), 0, 7, 8, 9, 256+1, 1<<32+3) {
		wantErr(t, g, api.Meta{Kind: kind, Name: "g", A: 1, B: 3, C: 1, D: 1, List: l(1)}, api.ErrArg)
		wantErr(t, g, api.Meta{Kind: kind, Name: "h", List: l(1)}, api.ErrArg)
	}
}

// G15.2: Join

func TestJoinOfNewMembers(t *testing.T) {
	g := groups.New()
	parts := count(1, 16)
	for id := 1; id <= 16; id++ {
		counts := dealt(16, id)
		wantTold(t, g, join("g", 0, parts...), made(id, id, parts[16-counts[id-1]:]...))
		wantList(t, "members", g.Members("g"), count(1, id))
	}
	for id := 1; id <= 16; id++ {
		if g.Owner("g", id) != id {
			t.Errorf("the owner of %d is %d", id, g.Owner("g", id))
		}
	}
}

// The last one that joined says which partitions there are, whether it is new or was there.
func TestJoinOfOtherPartitions(t *testing.T) {
	g := trio(t)
	wantTold(t, g, join("g", 2, 7, 9, 16), made(2, 4, 9))
	wantTold(t, g, sync("g", 1, 4), made(1, 4, 7))
	wantTold(t, g, sync("g", 3, 4), made(3, 4, 16))
	if g.Owner("g", 1) != 0 || g.Owner("g", 9) != 2 {
		t.Errorf("owners: %d, %d", g.Owner("g", 1), g.Owner("g", 9))
	}
	wantTold(t, g, join("g", 3), made(3, 5))
	wantTold(t, g, sync("g", 1, 5), made(1, 5))
	wantTold(t, g, join("g", 0, 4), made(4, 6))
	wantTold(t, g, sync("g", 1, 6), made(1, 6, 4))
	wantList(t, "members", g.Members("g"), l(1, 2, 3, 4))
}

// One that joins again is the one that it was: its number holds, and no id is used up.
func TestJoinAgain(t *testing.T) {
	g := trio(t)
	wantTold(t, g, commit("g", 1, 3, 2, 10, 5), groups.Told{Member: 1, Gen: 3, Offset: 10})
	wantTold(t, g, join("g", 1, 1, 2, 3, 4, 5), made(1, 4, 1, 2))
	wantTold(t, g, join("g", 1, 1, 2, 3, 4, 5), made(1, 5, 1, 2))
	wantErr(t, g, commit("g", 1, 5, 2, 11, 5), api.ErrDuplicate)
	wantTold(t, g, commit("g", 1, 5, 2, 11, 6), groups.Told{Member: 1, Gen: 5, Offset: 11})
	wantTold(t, g, join("g", 0, 1), made(4, 6))
	wantList(t, "members", g.Members("g"), l(1, 2, 3, 4))
}

func TestJoinOfNames(t *testing.T) {
	for _, name := range []string{"a", "z", "0", "9", "-", "az-09", strings.Repeat("q", 31), strings.Repeat("q", 32)} {
		g := groups.New()
		wantTold(t, g, join(name, 0, 1), made(1, 1, 1))
		if got := g.Names(); !slices.Equal(got, []string{name}) {
			t.Errorf("Names: %q", got)
		}
	}
	for _, name := range []string{"", "A", "Z", "a_", " a", "a ", "a\x00", "é", "\xff", "a/b", "`", "{", ":", "/", ",", ".", "a\n", strings.Repeat("q", 33), strings.Repeat("q", 1<<20)} {
		g := trio(t)
		for _, id := range l(0, 1, -1) {
			wantErr(t, g, join(name, id, 1), api.ErrArg)
		}
		// To the other kinds such a name is that of no group.
		for _, m := range []api.Meta{leave(name, 1), commit(name, 1, 1, 1, 1, 1), read(name, 1), sync(name, 1, 1)} {
			wantErr(t, g, m, api.ErrNone)
		}
	}
}

func TestJoinOfLists(t *testing.T) {
	for _, list := range [][]int{nil, {}, l(1), l(16), l(1, 16), l(2, 3, 5, 8, 13), count(1, 16)} {
		g := groups.New()
		wantTold(t, g, join("g", 0, list...), made(1, 1, list...))
	}
	wrong := [][]int{l(0), l(17), l(0, 1), l(1, 17), l(1, 1), l(2, 1), l(1, 3, 2), l(1, 3, 3), l(16, 16), l(16, 15), l(1, 2, 0), count(1, 17), count(0, 17), make([]int, 1<<20), slices.Repeat(count(1, 16), 2)}
	for _, n := range wild() {
		wrong = append(wrong, l(n), l(1, n), l(n, 1), l(1, n, 16))
	}
	g := trio(t)
	for _, list := range wrong {
		for _, id := range l(0, 1, 9, -1) {
			wantErr(t, g, join("g", id, list...), api.ErrArg)
			wantErr(t, g, join("h", id, list...), api.ErrArg)
		}
	}
}

func TestJoinOfMembers(t *testing.T) {
	g := trio(t)
	wantTold(t, g, leave("g", 2), groups.Told{Member: 2, Gen: 4})
	for _, id := range append(wild(), 2, 4, 5, 16, 17) {
		if id < 0 {
			wantErr(t, g, join("g", id, 1), api.ErrArg)
			wantErr(t, g, join("h", id, 1), api.ErrArg)
			continue
		}
		wantErr(t, g, join("g", id, 1), api.ErrMember)
		wantErr(t, g, join("h", id, 1), api.ErrNone)
	}
	// The id of one that is gone is not given again.
	wantTold(t, g, join("g", 0, 1, 2, 3), made(4, 5, 3))
	wantList(t, "members", g.Members("g"), l(1, 3, 4))
}

func TestTooManyGroups(t *testing.T) {
	g := groups.New()
	var names []string
	for i := range 8 {
		names = append(names, "g"+strconv.Itoa(7-i))
		wantTold(t, g, join(names[i], 0, 1), made(1, 1, 1))
	}
	for _, name := range []string{"g8", "a", strings.Repeat("z", 32)} {
		wantErr(t, g, join(name, 0, 1), api.ErrMany)
		wantErr(t, g, join(name, 0), api.ErrMany)
		wantErr(t, g, join(name, 1, 1), api.ErrNone)
		wantErr(t, g, join(name, 0, 2, 1), api.ErrArg)
	}
	wantErr(t, g, join("G", 0, 1), api.ErrArg)
	for _, name := range names {
		wantTold(t, g, join(name, 0, 1), made(2, 2))
		wantTold(t, g, join(name, 2, 1), made(2, 3))
		// A group without members is one all the same.
		wantTold(t, g, leave(name, 1), groups.Told{Member: 1, Gen: 4})
		wantTold(t, g, leave(name, 2), groups.Told{Member: 2, Gen: 5})
	}
	wantErr(t, g, join("g8", 0, 1), api.ErrMany)
	wantTold(t, g, join("g3", 0, 1), made(3, 6, 1))
}

func TestTooManyMembers(t *testing.T) {
	g := groups.New()
	for id := 1; id <= 16; id++ {
		wantTold(t, g, join("g", 0, 1), made(id, id, l(1)[min(1, id-1):]...))
	}
	wantErr(t, g, join("g", 0, 1), api.ErrMany)
	wantErr(t, g, join("g", 0), api.ErrMany)
	wantErr(t, g, join("g", 17, 1), api.ErrMember)
	wantErr(t, g, join("g", 0, 0), api.ErrArg)
	wantTold(t, g, join("g", 16, 1, 2), made(16, 17))
	wantTold(t, g, join("h", 0, 1), made(1, 1, 1))
	wantTold(t, g, leave("g", 5), groups.Told{Member: 5, Gen: 18})
	wantTold(t, g, join("g", 0, 1), made(17, 19))
	wantErr(t, g, join("g", 0, 1), api.ErrMany)
}

// A group that ever had 1000000 members takes no Join any more, be it of a new one or not.
func TestTooManyMembersEver(t *testing.T) {
	g := groups.New()
	wantTold(t, g, join("g", 0, 1), made(1, 1, 1))
	for id := 2; id < 1000000; id++ {
		a, b := g.Apply(join("g", 0, 1)), g.Apply(leave("g", id))
		if a.Err != api.OK || a.Member != id || a.Gen != 2*id-2 || b.Err != api.OK || b.Gen != 2*id-1 {
			t.Fatalf("member %d: %+v, %+v", id, a, b)
		}
	}
	wantTold(t, g, join("g", 1, 1, 2), made(1, 1999998, 1, 2))
	wantTold(t, g, join("g", 0, 1, 2), made(1000000, 1999999, 2))
	wantErr(t, g, join("g", 0, 1), api.ErrMany)
	wantErr(t, g, join("g", 1, 1), api.ErrMany)
	wantErr(t, g, join("g", 2, 1), api.ErrMember)
	wantErr(t, g, join("g", 1, 0), api.ErrArg)
	wantTold(t, g, sync("g", 1, 1999999), made(1, 1999999, 1))
	wantTold(t, g, leave("g", 1), groups.Told{Member: 1, Gen: 2000000})
	wantErr(t, g, join("g", 0, 1), api.ErrMany)
	wantTold(t, g, join("h", 0, 1), made(1, 1, 1))
}

// G15.2: Leave

func TestLeave(t *testing.T) {
	g := trio(t)
	wantTold(t, g, commit("g", 2, 3, 4, 9, 1), groups.Told{Member: 2, Gen: 3, Offset: 9})
	wantTold(t, g, leave("g", 2), groups.Told{Member: 2, Gen: 4})
	wantList(t, "members", g.Members("g"), l(1, 3))
	wantTold(t, g, sync("g", 1, 4), made(1, 4, 1, 2, 3))
	wantTold(t, g, sync("g", 3, 4), made(3, 4, 4, 5))
	wantTold(t, g, read("g", 4), groups.Told{Gen: 4, Offset: 9})
	wantErr(t, g, leave("g", 2), api.ErrMember)
	wantErr(t, g, sync("g", 2, 4), api.ErrMember)
	wantTold(t, g, leave("g", 3), groups.Told{Member: 3, Gen: 5})
	wantTold(t, g, leave("g", 1), groups.Told{Member: 1, Gen: 6})
	wantList(t, "members", g.Members("g"), nil)
	for part := range 18 {
		if g.Owner("g", part) != 0 {
			t.Errorf("%d has the owner %d, who is gone", part, g.Owner("g", part))
		}
	}
	// What was committed is there for those who come.
	wantTold(t, g, read("g", 4), groups.Told{Gen: 6, Offset: 9})
	wantTold(t, g, join("g", 0, 4), made(4, 7, 4))
	wantTold(t, g, read("g", 4), groups.Told{Gen: 7, Offset: 9})
}

func TestLeaveRefuses(t *testing.T) {
	g := trio(t)
	for _, id := range append(wild(), 0, 4, 16) {
		wantErr(t, g, leave("g", id), api.ErrMember)
		wantErr(t, g, leave("h", id), api.ErrNone)
	}
	wantErr(t, g, leave("h", 1), api.ErrNone)
}

// G15.2: Commit

func TestCommit(t *testing.T) {
	g := trio(t)
	for _, c := range []struct{ id, part, offset, number int }{
		{1, 1, 7, 0}, {1, 2, 8, 1}, {1, 1, 3, 2}, {2, 3, 0, 0}, {2, 4, most, 5}, {3, 5, 1, most}, {1, 1, 3, 1000}, {2, 3, 5, most},
	} {
		wantTold(t, g, commit("g", c.id, 3, c.part, c.offset, c.number), groups.Told{Member: c.id, Gen: 3, Offset: c.offset})
		wantTold(t, g, read("g", c.part), groups.Told{Gen: 3, Offset: c.offset})
		if g.Offset("g", c.part) != c.offset {
			t.Errorf("Offset of %d: %d", c.part, g.Offset("g", c.part))
		}
	}
	for part, want := range l(-1, 3, 8, 5, most, 1, -1) {
		if got := g.Offset("g", part); got != want {
			t.Errorf("Offset of %d: %d, want %d", part, got, want)
		}
	}
	if g.Gen("g") != 3 {
		t.Errorf("a commit made the generation %d", g.Gen("g"))
	}
}

// A member's number is one for all of its partitions, and none of another's.
func TestCommitTwiceOrLate(t *testing.T) {
	g := trio(t)
	wantTold(t, g, commit("g", 1, 3, 1, 7, 4), groups.Told{Member: 1, Gen: 3, Offset: 7})
	for _, number := range l(0, 1, 3, 4) {
		for _, part := range l(1, 2, 3, 99) {
			wantErr(t, g, commit("g", 1, 3, part, 9, number), api.ErrDuplicate)
		}
	}
	wantTold(t, g, commit("g", 2, 3, 3, 7, 0), groups.Told{Member: 2, Gen: 3, Offset: 7})
	wantErr(t, g, commit("g", 2, 3, 3, 7, 0), api.ErrDuplicate)
	wantTold(t, g, commit("g", 1, 3, 2, 9, 5), groups.Told{Member: 1, Gen: 3, Offset: 9})
	wantErr(t, g, commit("g", 1, 3, 1, 9, 5), api.ErrDuplicate)
	wantTold(t, g, commit("g", 1, 3, 2, 9, most), groups.Told{Member: 1, Gen: 3, Offset: 9})
	wantErr(t, g, commit("g", 1, 3, 2, 9, most), api.ErrDuplicate)
	// A member 1 of another group has a number of its own.
	wantTold(t, g, join("h", 0, 1), made(1, 1, 1))
	wantTold(t, g, commit("h", 1, 1, 1, 2, 0), groups.Told{Member: 1, Gen: 1, Offset: 2})
	if g.Offset("g", 1) != 7 || g.Offset("h", 1) != 2 {
		t.Errorf("offsets: %d, %d", g.Offset("g", 1), g.Offset("h", 1))
	}
}

// A commit that is refused leaves the number free.
func TestACommitThatIsRefusedHasNoNumber(t *testing.T) {
	g := trio(t)
	for _, m := range []api.Meta{commit("g", 1, 3, 3, 7, 4), commit("g", 1, 2, 1, 7, 4), commit("g", 1, 3, 1, -1, 4), commit("g", 1, 3, 1, most+1, 4), commit("g", 1, 3, 1, 7, 4, 5)} {
		if e := g.Apply(m).Err; e == api.OK {
			t.Errorf("Apply(%+v) is taken", m)
		}
	}
	wantTold(t, g, commit("g", 1, 3, 1, 7, 0), groups.Told{Member: 1, Gen: 3, Offset: 7})
}

func TestCommitRefuses(t *testing.T) {
	g := trio(t)
	wantTold(t, g, commit("g", 1, 3, 1, 7, 4), groups.Told{Member: 1, Gen: 3, Offset: 7})
	for _, id := range append(wild(), 0, 4, 16) {
		wantErr(t, g, commit("g", id, 3, 1, 8, 5), api.ErrMember)
	}
	for _, gen := range append(wild(), 0, 1, 2, 4) {
		wantErr(t, g, commit("g", 1, gen, 1, 8, 5), api.ErrGen)
	}
	for _, n := range wild() {
		wantErr(t, g, commit("g", 1, 3, 1, n, 5), api.ErrArg)
		wantErr(t, g, commit("g", 1, 3, 1, 8, n), api.ErrArg)
	}
	for _, list := range [][]int{nil, {}, l(5, 6), l(5, 5), make([]int, 1<<20)} {
		wantErr(t, g, commit("g", 1, 3, 1, 8, list...), api.ErrArg)
	}
	for _, part := range append(wild(), 0, 3, 4, 5, 6, 16, 17) {
		wantErr(t, g, commit("g", 1, 3, part, 8, 5), api.ErrState)
	}
}

// Of a commit's errors, the first one is told.
func TestCommitsErrorsInOrder(t *testing.T) {
	g := trio(t)
	wantTold(t, g, commit("g", 1, 3, 1, 7, 4), groups.Told{Member: 1, Gen: 3, Offset: 7})
	m := commit("h", 9, 9, 9, -1)
	wantErr(t, g, m, api.ErrNone)
	m.Name = "g"
	wantErr(t, g, m, api.ErrMember)
	m.A = 1
	wantErr(t, g, m, api.ErrGen)
	m.B = 3
	wantErr(t, g, m, api.ErrArg)
	m.D = 8
	wantErr(t, g, m, api.ErrArg)
	m.List = l(4)
	wantErr(t, g, m, api.ErrDuplicate)
	m.List = l(5)
	wantErr(t, g, m, api.ErrState)
	m.C = 1
	wantTold(t, g, m, groups.Told{Member: 1, Gen: 3, Offset: 8})
}

// What is no partition of the group any more has nobody who may commit; what was committed of it stays.
func TestCommitOfWhatIsNoPartitionAnyMore(t *testing.T) {
	g := trio(t)
	wantTold(t, g, commit("g", 1, 3, 1, 7, 0), groups.Told{Member: 1, Gen: 3, Offset: 7})
	wantTold(t, g, join("g", 1, 2, 3), made(1, 4, 2))
	wantErr(t, g, commit("g", 1, 4, 1, 8, 1), api.ErrState)
	wantTold(t, g, read("g", 1), groups.Told{Gen: 4, Offset: 7})
	wantTold(t, g, join("g", 2, 1, 2, 3), made(2, 5, 2))
	wantTold(t, g, commit("g", 1, 5, 1, 8, 1), groups.Told{Member: 1, Gen: 5, Offset: 8})
}

// G15.2: Read, Sync, Epoch

func TestRead(t *testing.T) {
	g := trio(t)
	for _, part := range append(wild(), 0, 1, 5, 6, 16, 17) {
		wantTold(t, g, read("g", part), groups.Told{Gen: 3, Offset: -1})
		wantErr(t, g, read("h", part), api.ErrNone)
	}
	wantTold(t, g, commit("g", 3, 3, 5, 0, 0), groups.Told{Member: 3, Gen: 3, Offset: 0})
	wantTold(t, g, read("g", 5), groups.Told{Gen: 3})
	wantTold(t, g, read("g", 4), groups.Told{Gen: 3, Offset: -1})
}

func TestSync(t *testing.T) {
	g := trio(t)
	was := told(g)
	wantTold(t, g, sync("g", 1, 3), made(1, 3, 1, 2))
	wantTold(t, g, sync("g", 2, 3), made(2, 3, 3, 4))
	wantTold(t, g, sync("g", 3, 3), made(3, 3, 5))
	if is := told(g); is != was {
		t.Errorf("Sync made\n%s\nof\n%s", is, was)
	}
	for _, n := range append(wild(), 0, 4, 16) {
		wantErr(t, g, sync("g", n, 3), api.ErrMember)
		wantErr(t, g, sync("g", n, 9), api.ErrMember)
		wantErr(t, g, sync("h", n, 3), api.ErrNone)
		wantErr(t, g, sync("g", 1, n), api.ErrGen)
	}
	wantErr(t, g, sync("g", 1, 2), api.ErrGen)
}

func TestEpoch(t *testing.T) {
	g := groups.New()
	for _, n := range wild() {
		if n < 0 {
			wantErr(t, g, epoch(n), api.ErrFenced)
		}
	}
	for _, n := range l(0, 0, 1, 1, 5, 6, most, most+1, math.MaxInt, math.MaxInt) {
		wantTold(t, g, epoch(n), groups.Told{Gen: n})
		if g.Epoch() != n {
			t.Errorf("Epoch: %d, want %d", g.Epoch(), n)
		}
		for _, elder := range l(n-1, -1, math.MinInt) {
			if elder < n {
				wantErr(t, g, epoch(elder), api.ErrFenced)
			}
		}
	}
	// Groups go on as they were, whoever coordinates them.
	g = trio(t)
	was := told(g)
	wantTold(t, g, epoch(4), groups.Told{Gen: 4})
	if is := told(g); is != strings.Replace(was, "epoch 0", "epoch 4", 1) {
		t.Errorf("Epoch made\n%s\nof\n%s", is, was)
	}
}

// Of a record only the kind's own fields are asked.
func TestFieldsThatAreNotTheKinds(t *testing.T) {
	for _, n := range append(wild(), 0, 1, 2) {
		for _, list := range [][]int{nil, l(n), l(3, 2, 1), make([]int, 100)} {
			for _, name := range []string{"g", "", "?"} {
				for _, m := range []api.Meta{
					{Kind: groups.Join, Name: "g", A: 2, B: n, C: n, D: n, Text: name, List: l(1, 2, 3, 4, 5)},
					{Kind: groups.Leave, Name: "g", A: 2, B: n, C: n, D: n, Text: name, List: list},
					{Kind: groups.Commit, Name: "g", A: 2, B: 3, C: 4, D: 9, Text: name, List: l(1)},
					{Kind: groups.Read, Name: "g", A: n, B: n, C: 4, D: n, Text: name, List: list},
					{Kind: groups.Sync, Name: "g", A: 2, B: 3, C: n, D: n, Text: name, List: list},
					{Kind: groups.Epoch, Name: name, A: 2, B: n, C: n, D: n, Text: name, List: list},
				} {
					g := trio(t)
					got := g.Apply(m)
					p := &paper{}
					for range 3 {
						p.apply(join("g", 0, 1, 2, 3, 4, 5))
					}
					if want := p.apply(m); got.Err != api.OK || !same(got, want) || told(g) != p.told() {
						t.Fatalf("Apply(%+v): %+v, want %+v", m, got, want)
					}
				}
			}
		}
	}
}

// G15.3

func TestNamesRise(t *testing.T) {
	g := groups.New()
	var want []string
	for _, name := range []string{"m", "z", "a", "-", "0", "aa", "a-", "9"} {
		wantTold(t, g, join(name, 0), made(1, 1))
		want = append(want, name)
		slices.Sort(want)
		if got := g.Names(); !slices.Equal(got, want) {
			t.Errorf("Names: %q, want %q", got, want)
		}
	}
	wantTold(t, g, leave("m", 1), groups.Told{Member: 1, Gen: 2})
	if got := g.Names(); !slices.Equal(got, want) {
		t.Errorf("Names behind a Leave: %q, want %q", got, want)
	}
}

func TestWhatIsNotThere(t *testing.T) {
	g := trio(t)
	for _, name := range []string{"", "h", "G", "gg", "\xff", strings.Repeat("g", 1<<20)} {
		if g.Gen(name) != 0 || len(g.Members(name)) != 0 {
			t.Errorf("%q: %d, %v", name, g.Gen(name), g.Members(name))
		}
		for _, part := range append(wild(), 0, 1, 16, 17) {
			if g.Owner(name, part) != 0 || g.Offset(name, part) != -1 {
				t.Errorf("%q, %d: %d, %d", name, part, g.Owner(name, part), g.Offset(name, part))
			}
		}
	}
	for _, part := range append(wild(), 0, 6, 16, 17) {
		if g.Owner("g", part) != 0 || g.Offset("g", part) != -1 {
			t.Errorf("%d: %d, %d", part, g.Owner("g", part), g.Offset("g", part))
		}
	}
	// To ask makes no group.
	if got := g.Names(); !slices.Equal(got, []string{"g"}) {
		t.Errorf("Names: %q", got)
	}
}

// P3

func spoil(list []int) {
	for i := range list {
		list[i] = 12
	}
	_ = append(list, 13)
}

func TestListsThatAreHandedInAreNotKept(t *testing.T) {
	g := groups.New()
	list := l(1, 2, 3, 4, 99, 98)
	for id := 1; id <= 2; id++ {
		m := join("g", 0, 0)
		m.List = list[:4]
		told := g.Apply(m)
		if told.Err != api.OK || told.Member != id {
			t.Fatalf("Join: %+v", told)
		}
		spoil(told.Parts)
		wantList(t, "what was handed in", list, l(1, 2, 3, 4, 99, 98))
	}
	spoil(list[:4])
	wantTold(t, g, sync("g", 1, 2), made(1, 2, 1, 2))
	wantTold(t, g, sync("g", 2, 2), made(2, 2, 3, 4))
	m := commit("g", 1, 2, 1, 5, 6)
	wantTold(t, g, m, groups.Told{Member: 1, Gen: 2, Offset: 5})
	m.List[0] = 0
	wantErr(t, g, commit("g", 1, 2, 1, 5, 6), api.ErrDuplicate)
}

func TestWhatIsToldIsACopy(t *testing.T) {
	g := trio(t)
	was := told(g)
	for id := 1; id <= 3; id++ {
		spoil(g.Apply(sync("g", id, 3)).Parts)
	}
	spoil(g.Members("g"))
	names := g.Names()
	names[0] = "spoilt"
	if is := told(g); is != was {
		t.Errorf("what was told is kept:\n%s\nwas\n%s", is, was)
	}
	// What was told stays as it was, too.
	members, parts := g.Members("g"), g.Apply(sync("g", 2, 3)).Parts
	g.Apply(leave("g", 1))
	g.Apply(join("g", 0, 7, 8, 9))
	wantList(t, "members that were told", members, l(1, 2, 3))
	wantList(t, "parts that were told", parts, l(3, 4))
}
