package raftlog_test

import (
	"encoding/binary"
	"hash/crc32"
	"math"
	"slices"
	"strconv"
	"strings"
	"testing"

	"logboom/api"
	"logboom/disk"
	"logboom/raftlog"
)

const most = api.MaxOffset

// wrong is numbers that are neither terms nor indexes nor votes.
var wrong = []int{-1, most + 1, -most, math.MinInt, math.MaxInt, 1 << 32, -1 << 32}

func made(t *testing.T, size int) *disk.Disk {
	t.Helper()
	d, e := disk.New(size)
	if e != api.OK {
		t.Fatalf("New(%d): %v", size, e)
	}
	return d
}

// must ends the test at the first call that is refused.
func must(t *testing.T, es ...api.Errno) {
	t.Helper()
	for i, e := range es {
		if e != api.OK {
			t.Fatalf("call %d: %v", i, e)
		}
	}
}

func wantErr(t *testing.T, what string, got, want api.Errno) {
	t.Helper()
	if got != want {
		t.Fatalf("%s: got %d, want %d", what, int(got), int(want))
	}
}

func opened(t *testing.T, d *disk.Disk, prefix string) *raftlog.Log {
	t.Helper()
	l, e := raftlog.Open(d, prefix)
	if l == nil || e != api.OK {
		t.Fatalf("Open(%q): %v", prefix, e)
	}
	return l
}

// state is all that a log tells.
type state struct {
	term, vote int
	snap       api.Entry
	list       []api.Entry
}

// end is the last entry, or the snapshot.
func (s state) end() api.Entry {
	if len(s.list) == 0 {
		return s.snap
	}
	return s.list[len(s.list)-1]
}

// terms is entries behind an index, each of the next of these terms, with data of its own.
func terms(after int, list ...int) []api.Entry {
	var out []api.Entry
	for i, term := range list {
		out = append(out, api.Entry{Term: term, Index: after + 1 + i, Data: strconv.Itoa(term) + "." + strconv.Itoa(after+1+i)})
	}
	return out
}

// row is so many entries of one term.
func row(after, n, term int) []api.Entry {
	list := make([]int, n)
	for i := range list {
		list[i] = term
	}
	return terms(after, list...)
}

// ints is numbers one behind the other, written by another hand than the program's.
func ints(list ...int) string {
	var b []byte
	for _, n := range list {
		b = binary.AppendVarint(b, int64(n))
	}
	return string(b)
}

func four(n int) string { return string(binary.BigEndian.AppendUint32(nil, uint32(n))) }

func crc(b string) string {
	return four(int(crc32.Checksum([]byte(b), crc32.MakeTable(crc32.Castagnoli))))
}

// sealed is bytes with their checksum ahead.
func sealed(rest string) string { return crc(rest) + rest }

func termFile(term, vote int) string { return sealed(ints(term, vote)) }

func snapFile(x api.Entry) string { return sealed(ints(x.Index, x.Term, len(x.Data)) + x.Data) }

// framed is a body with its head.
func framed(body string) string { return four(len(body)) + sealed(body) }

func logFile(list ...api.Entry) string {
	b := strings.Builder{}
	for _, x := range list {
		b.WriteString(framed(ints(x.Term, x.Index, len(x.Data)) + x.Data))
	}
	return b.String()
}

// wantState asks for all that a log tells.
func wantState(t *testing.T, l *raftlog.Log, want state) {
	t.Helper()
	if l.Term() != want.term || l.Vote() != want.vote {
		t.Fatalf("Term, Vote: got %d, %d, want %d, %d", l.Term(), l.Vote(), want.term, want.vote)
	}
	if index, term, data := l.Snapshot(); index != want.snap.Index || term != want.snap.Term || data != want.snap.Data {
		t.Fatalf("Snapshot: got %d, %d, %.80q, want %.80v", index, term, data, want.snap)
	}
	first := want.snap.Index + 1
	if l.First() != first {
		t.Fatalf("First: got %d, want %d", l.First(), first)
	}
	if index, term := l.Last(); index != want.end().Index || term != want.end().Term {
		t.Fatalf("Last: got %d, %d, want %d, %d", index, term, want.end().Index, want.end().Term)
	}
	if got := l.From(first, math.MaxInt); !slices.Equal(got, want.list) {
		t.Fatalf("From: got %.300v, want %.300v", got, want.list)
	}
	for i, x := range want.list {
		if got, ok := l.At(first + i); !ok || got != x {
			t.Fatalf("At(%d): got %.80v, %v, want %.80v", first+i, got, ok, x)
		}
	}
	for _, index := range []int{first - 1, first - 2, first + len(want.list), first + len(want.list) + 1, math.MinInt, math.MaxInt} {
		if got, ok := l.At(index); ok || got != (api.Entry{}) {
			t.Fatalf("At(%d): got %.80v, %v, want none", index, got, ok)
		}
	}
}

// wantFile asks for the bytes of a file, all safe; of no bytes it need not be there.
func wantFile(t *testing.T, d *disk.Disk, name, want string) {
	t.Helper()
	got, _ := d.Read(name)
	if got != want || d.Synced(name) != len(want) {
		t.Fatalf("%s: got %.300q, %d safe, want %.300q", name, got, d.Synced(name), want)
	}
}

// wantFiles asks for what the files of a log have that was turned, snapped and put by its calls.
func wantFiles(t *testing.T, d *disk.Disk, want state) {
	t.Helper()
	term, snap := "", ""
	if want.term != 0 || want.vote != 0 {
		term = termFile(want.term, want.vote)
	}
	if want.snap != (api.Entry{}) {
		snap = snapFile(want.snap)
	}
	wantFile(t, d, "r.term", term)
	wantFile(t, d, "r.snap", snap)
	wantFile(t, d, "r.log", logFile(want.list...))
}

// wantKept asks for a state, in the log, in its files, and in a log that is opened behind a crash.
func wantKept(t *testing.T, d *disk.Disk, l *raftlog.Log, want state) {
	t.Helper()
	wantState(t, l, want)
	wantFiles(t, d, want)
	d = d.Clone()
	d.Crash([]int{1, 2, 3})
	wantState(t, opened(t, d, "r"), want)
	wantFiles(t, d, want)
}

// begun is a log of the files r, in that state, by its calls.
func begun(t *testing.T, d *disk.Disk, s state) *raftlog.Log {
	t.Helper()
	l := opened(t, d, "r")
	must(t, l.Turn(s.term, s.vote))
	if s.snap.Index != 0 {
		must(t, l.Snap(s.snap.Index, s.snap.Term, s.snap.Data))
	}
	must(t, l.Put(s.snap.Index, s.list))
	wantKept(t, d, l, s)
	return l
}

// picture is all that a disk tells.
func picture(d *disk.Disk) string {
	b := strings.Builder{}
	for _, name := range d.Names() {
		bytes, _ := d.Read(name)
		b.WriteString(strconv.Quote(name) + " " + strconv.Quote(bytes) + " " + strconv.Itoa(d.Synced(name)) + "\n")
	}
	return b.String() + strconv.Itoa(d.Free())
}

// stuff leaves so many bytes free.
func stuff(t *testing.T, d *disk.Disk, free int) {
	t.Helper()
	must(t, d.Replace("stuff", strings.Repeat("s", d.Free()+d.Size("stuff")-free)))
}

// crowd has so many files on the disk.
func crowd(t *testing.T, d *disk.Disk, files int) {
	t.Helper()
	for i := 0; len(d.Names()) < files; i++ {
		must(t, d.Append("crowd"+strconv.Itoa(i), ""))
	}
}

// step is a call that may change a log.
type step struct {
	what string
	call func(l *raftlog.Log) api.Errno
}

func turn(term, vote int) step {
	return step{"Turn(" + strconv.Itoa(term) + ", " + strconv.Itoa(vote) + ")", func(l *raftlog.Log) api.Errno { return l.Turn(term, vote) }}
}

func put(after int, list ...api.Entry) step {
	what := "Put(" + strconv.Itoa(after)
	for _, x := range list {
		what += ", " + strconv.Itoa(x.Index) + " of " + strconv.Itoa(x.Term) + " with " + strconv.Itoa(len(x.Data))
	}
	return step{what + ")", func(l *raftlog.Log) api.Errno { return l.Put(after, list) }}
}

func snap(index, term int, data string) step {
	return step{"Snap(" + strconv.Itoa(index) + ", " + strconv.Itoa(term) + ", of " + strconv.Itoa(len(data)) + ")", func(l *raftlog.Log) api.Errno { return l.Snap(index, term, data) }}
}

// wantLeft asks that a call tells want, leaves a log as it is, and writes nothing.
func wantLeft(t *testing.T, s step, want api.Errno, was state) {
	t.Helper()
	d := made(t, 200000)
	wantLeftOn(t, d, begun(t, d, was), s, want, was)
}

func wantLeftOn(t *testing.T, d *disk.Disk, l *raftlog.Log, s step, want api.Errno, was state) {
	t.Helper()
	before := picture(d)
	wantErr(t, s.what, s.call(l), want)
	wantState(t, l, was)
	if got := picture(d); got != before {
		t.Fatalf("%s: the disk was\n%.2000s\nis\n%.2000s", s.what, before, got)
	}
}

// wantTurned asks that a call is OK, and makes one state of another, in the log and in its files.
func wantTurned(t *testing.T, s step, was, want state) {
	t.Helper()
	d := made(t, 200000)
	l := begun(t, d, was)
	wantErr(t, s.what, s.call(l), api.OK)
	wantKept(t, d, l, want)
}

// L9.2

func TestTurn(t *testing.T) {
	for _, c := range []struct {
		term, vote, toTerm, toVote int
		want                       api.Errno
	}{
		{0, 0, 0, 1, api.OK}, {0, 0, 0, most, api.OK}, {0, 0, 1, 0, api.OK}, {0, 0, most, most, api.OK},
		{0, 2, 0, 3, api.ErrState}, {0, 2, 0, 0, api.ErrState}, {0, 2, 1, 0, api.OK},
		{5, 2, 5, 3, api.ErrState}, {5, 2, 5, 1, api.ErrState}, {5, 2, 5, 0, api.ErrState}, {5, 2, 5, most, api.ErrState},
		{5, 0, 5, 2, api.OK}, {5, 0, 5, most, api.OK},
		{5, 2, 4, 2, api.ErrFenced}, {5, 2, 4, 0, api.ErrFenced}, {5, 2, 4, 3, api.ErrFenced}, {5, 2, 0, 0, api.ErrFenced}, {5, 0, 4, 0, api.ErrFenced},
		{5, 2, 6, 2, api.OK}, {5, 2, 6, 3, api.OK}, {5, 2, 6, 0, api.OK}, {5, 0, most, 0, api.OK},
		{most, 0, most, most, api.OK}, {most, most, most, 1, api.ErrState}, {most, most, most - 1, most, api.ErrFenced},
	} {
		was := state{term: c.term, vote: c.vote, snap: api.Entry{Term: 1, Index: 2, Data: "s"}, list: row(2, 2, 3)}
		if c.want != api.OK {
			wantLeft(t, turn(c.toTerm, c.toVote), c.want, was)
			continue
		}
		want := was
		want.term, want.vote = c.toTerm, c.toVote
		wantTurned(t, turn(c.toTerm, c.toVote), was, want)
	}
}

func TestTurnRefusesOtherNumbers(t *testing.T) {
	for _, n := range wrong {
		for _, was := range []state{{}, {term: 5, vote: 2}, {term: most, vote: most}} {
			wantLeft(t, turn(n, 0), api.ErrArg, was)
			wantLeft(t, turn(n, n), api.ErrArg, was)
			// Also where the term would be fenced, or another vote was given.
			wantLeft(t, turn(0, n), api.ErrArg, was)
			wantLeft(t, turn(5, n), api.ErrArg, was)
			wantLeft(t, turn(most, n), api.ErrArg, was)
		}
	}
}

func TestTurnToTheSameWritesNothing(t *testing.T) {
	for _, was := range []state{{}, {term: 5}, {term: 5, vote: 2}, {vote: 2}, {term: most, vote: most}} {
		wantLeft(t, turn(was.term, was.vote), api.OK, was)
		d := made(t, 100)
		l := begun(t, d, was)
		must(t, d.Replace("r.term", "others"))
		wantLeftOn(t, d, l, turn(was.term, was.vote), api.OK, was)
	}
	d := made(t, 100)
	must(t, opened(t, d, "r").Turn(0, 0))
	if names := d.Names(); len(names) != 0 {
		t.Fatalf("files: %v", names)
	}
}

func TestTurnThatTheDiskRefuses(t *testing.T) {
	for _, was := range []state{{}, {term: 5, vote: 2, list: row(0, 3, 1)}} {
		d := made(t, 1000)
		l := begun(t, d, was)
		need := len(termFile(most, most)) - d.Size("r.term")
		stuff(t, d, need-1)
		wantLeftOn(t, d, l, turn(most, most), api.ErrFull, was)
		wantErr(t, "Turn to what is there", l.Turn(was.term, was.vote), api.OK)
		stuff(t, d, need)
		must(t, l.Turn(most, most))
		was.term, was.vote = most, most
		wantKept(t, d, l, was)
	}
	d := made(t, 1000)
	l := opened(t, d, "r")
	crowd(t, d, api.MaxFiles)
	wantLeftOn(t, d, l, turn(1, 1), api.ErrMany, state{})
	must(t, d.Remove("crowd0"), l.Turn(1, 1))
	wantKept(t, d, l, state{term: 1, vote: 1})
	must(t, l.Turn(2, 0))
	wantKept(t, d, l, state{term: 2})
}

// L9.3

func TestALogThatIsNew(t *testing.T) {
	d := made(t, 100)
	wantKept(t, d, opened(t, d, "r"), state{})
	if names := d.Names(); len(names) != 0 {
		t.Fatalf("Open made files: %v", names)
	}
}

func TestFrom(t *testing.T) {
	for _, s := range []state{{list: terms(0, 1, 1, 2, 4, 4, 9)}, {snap: api.Entry{Term: 1, Index: 7, Data: "s"}, list: terms(7, 1, 1, 2, 4, 4, 9)}, {snap: api.Entry{Term: 1, Index: 7}}, {}} {
		l := begun(t, made(t, 1000), s)
		first := s.snap.Index + 1
		for index := first - 3; index < first+9; index++ {
			for _, n := range []int{math.MinInt, -1, 0, 1, 2, 3, 5, 6, 7, 9, math.MaxInt} {
				var want []api.Entry
				for _, x := range s.list {
					if index >= first && x.Index >= index && len(want) < n {
						want = append(want, x)
					}
				}
				if got := l.From(index, n); !slices.Equal(got, want) {
					t.Fatalf("From(%d, %d): got %v, want %v", index, n, got, want)
				}
			}
		}
		for _, index := range []int{math.MinInt, math.MinInt + 1, math.MaxInt, math.MaxInt - 1, most, most + 1, -most} {
			for _, n := range []int{math.MinInt, 0, 1, math.MaxInt} {
				if got := l.From(index, n); len(got) != 0 {
					t.Fatalf("From(%d, %d): got %v", index, n, got)
				}
			}
		}
	}
}

func TestLastAndFirst(t *testing.T) {
	for _, s := range []state{
		{}, {list: row(0, 1, 1)}, {list: terms(0, 1, 5)}, {snap: api.Entry{Term: 3, Index: 1}}, {snap: api.Entry{Term: 3, Index: 9, Data: "s"}, list: terms(9, 3, 4)},
		{snap: api.Entry{Term: most, Index: most, Data: "s"}}, {snap: api.Entry{Term: most, Index: most - 1}, list: row(most-1, 1, most)},
	} {
		begun(t, made(t, 1000), s)
	}
}

func TestAskingChangesNothing(t *testing.T) {
	ask := step{"asking", func(l *raftlog.Log) api.Errno {
		l.Term()
		l.Vote()
		l.First()
		l.Last()
		l.At(3)
		l.From(3, 2)
		l.Snapshot()
		return api.OK
	}}
	wantLeft(t, ask, api.OK, state{})
	wantLeft(t, ask, api.OK, state{term: 4, vote: 1, snap: api.Entry{Term: 1, Index: 2, Data: "s"}, list: row(2, 3, 2)})
}

// P3: what From answered is nobody else's.
func TestFromIsNew(t *testing.T) {
	d := made(t, 1000)
	s := state{list: row(0, 5, 1)}
	l := begun(t, d, s)
	for _, n := range []int{2, 3, 5} {
		list := l.From(1, n)
		for i := range list {
			list[i] = api.Entry{Term: 99, Index: 99, Data: "x"}
		}
		_ = append(list, api.Entry{Term: 98})
		_ = append(list[:0:cap(list)], api.Entry{Term: 98})
		wantKept(t, d, l, s)
	}
	// And stays what it was when the log turns.
	list := l.From(1, 4)
	must(t, l.Put(1, row(1, 2, 7)), l.Put(3, row(3, 4, 8)), l.Snap(2, 7, "s"), l.Put(2, row(2, 5, 9)))
	if !slices.Equal(list, row(0, 4, 1)) {
		t.Fatalf("From was %v, is %v", row(0, 4, 1), list)
	}
}

// P3: what is handed to Put is neither written into nor kept.
func TestPutKeepsNothingOfWhatItIsHanded(t *testing.T) {
	d := made(t, 1000)
	l := opened(t, d, "r")
	all := append(row(0, 4, 1), terms(4, 9, 9)...)
	list := all[:4]
	must(t, l.Put(0, list))
	if !slices.Equal(all, append(row(0, 4, 1), terms(4, 9, 9)...)) {
		t.Fatalf("Put wrote: %v", all)
	}
	for i := range all {
		all[i] = api.Entry{Term: 7, Index: 7, Data: "x"}
	}
	wantKept(t, d, l, state{list: row(0, 4, 1)})
	more := append(row(2, 1, 2), terms(3, 8, 8)...)
	must(t, l.Put(2, more[:1]))
	more[0].Data = "x"
	wantKept(t, d, l, state{list: append(row(0, 2, 1), row(2, 1, 2)...)})
	if !slices.Equal(more[1:], terms(3, 8, 8)) {
		t.Fatalf("Put wrote behind the list: %v", more)
	}
}

// L9.4

func TestPutBehindWhatIsNotThere(t *testing.T) {
	for _, s := range []state{{}, {list: row(0, 3, 1)}, {snap: api.Entry{Term: 1, Index: 7}}, {snap: api.Entry{Term: 1, Index: 7}, list: row(7, 2, 1)}} {
		end := s.end().Index
		for _, after := range []int{-1, -2, end + 1, end + 2, most, most + 1, math.MinInt, math.MaxInt} {
			wantLeft(t, put(after), api.ErrRange, s)
			wantLeft(t, put(after, row(after, 2, 1)...), api.ErrRange, s)
			// Ahead of what is wrong with the entries.
			wantLeft(t, put(after, api.Entry{Index: after + 3}), api.ErrRange, s)
			wantLeft(t, put(after, api.Entry{Term: 1, Index: after + 1, Data: strings.Repeat("x", api.MaxData+1)}), api.ErrRange, s)
		}
		for after := range end + 1 {
			wantLeft(t, put(after), api.OK, s)
		}
	}
}

func TestPutRefusesWrongEntries(t *testing.T) {
	long := strings.Repeat("x", api.MaxData+1)
	for _, s := range []state{{}, {list: row(0, 3, 4)}, {snap: api.Entry{Term: 4, Index: 5, Data: "s"}, list: row(5, 3, 4)}} {
		for after := range s.end().Index + 1 {
			for at := range 3 {
				for _, c := range []struct {
					turn func(x *api.Entry)
					want api.Errno
				}{
					{func(x *api.Entry) { x.Index++ }, api.ErrArg},
					{func(x *api.Entry) { x.Index-- }, api.ErrArg},
					{func(x *api.Entry) { x.Index = 0 }, api.ErrArg},
					{func(x *api.Entry) { x.Index = math.MinInt }, api.ErrArg},
					{func(x *api.Entry) { x.Index = math.MaxInt }, api.ErrArg},
					{func(x *api.Entry) { x.Index, x.Data = after, long }, api.ErrArg},
					{func(x *api.Entry) { x.Term = 0 }, api.ErrArg},
					{func(x *api.Entry) { x.Term = -1 }, api.ErrArg},
					{func(x *api.Entry) { x.Term = most + 1 }, api.ErrArg},
					{func(x *api.Entry) { x.Term = math.MaxInt }, api.ErrArg},
					{func(x *api.Entry) { x.Term = math.MinInt }, api.ErrArg},
					{func(x *api.Entry) { x.Term, x.Data = 0, long }, api.ErrArg},
					{func(x *api.Entry) { x.Data = long }, api.ErrLong},
				} {
					// Also where the entries are there already, or lie in the snapshot.
					list := row(after, 3, 4)
					c.turn(&list[at])
					wantLeft(t, put(after, list...), c.want, s)
					// Of each entry, in order.
					if at < 2 {
						list[2].Term = 0
						wantLeft(t, put(after, list...), c.want, s)
						list[2] = api.Entry{Term: 4, Index: after + 3, Data: long}
						wantLeft(t, put(after, list...), c.want, s)
					}
				}
			}
		}
	}
}

func TestPutRefusesTermsThatFall(t *testing.T) {
	for _, s := range []state{{}, {list: row(0, 3, 4)}, {snap: api.Entry{Term: 4, Index: 9}}} {
		wantLeft(t, put(0, terms(0, 2, 1)...), api.ErrArg, s)
		wantLeft(t, put(0, terms(0, 4, 4, 3)...), api.ErrArg, s)
		wantLeft(t, put(0, terms(0, 1, 4, 5, 4)...), api.ErrArg, s)
		wantLeft(t, put(0, terms(0, most, most-1)...), api.ErrArg, s)
		long := terms(0, 4, 3)
		long[1].Data = strings.Repeat("x", api.MaxData+1)
		wantLeft(t, put(0, long...), api.ErrArg, s)
		long = terms(0, 4, 3)
		long[0].Data = strings.Repeat("x", api.MaxData+1)
		wantLeft(t, put(0, long...), api.ErrLong, s)
	}
}

func TestPutUpToTheLastIndex(t *testing.T) {
	s := state{snap: api.Entry{Term: 3, Index: most - 2}}
	wantLeft(t, put(most-2, row(most-2, 3, 3)...), api.ErrArg, s)
	want := s
	want.list = row(most-2, 2, most)
	wantTurned(t, put(most-2, want.list...), s, want)
	wantLeft(t, put(most, row(most, 1, most)...), api.ErrArg, want)
	wantLeft(t, put(most), api.OK, want)
	wantLeft(t, put(most, api.Entry{Term: most, Index: most + 1, Data: strings.Repeat("x", api.MaxData+1)}), api.ErrArg, want)
	s = state{snap: api.Entry{Term: 3, Index: most}}
	wantLeft(t, put(most, row(most, 1, 3)...), api.ErrArg, s)
	wantLeft(t, put(most-1, row(most-1, 1, 3)...), api.OK, s)
}

func TestPutOfTheMostData(t *testing.T) {
	x := api.Entry{Term: most, Index: 1, Data: strings.Repeat("\xff", api.MaxData)}
	wantTurned(t, put(0, x), state{}, state{list: []api.Entry{x}})
	wantTurned(t, put(0, x, api.Entry{Term: most, Index: 2}), state{}, state{list: []api.Entry{x, {Term: most, Index: 2}}})
}

// TestPutOverWhatIsThere has short logs and short lists of few terms, all of them, held against the promise's words.
func TestPutOverWhatIsThere(t *testing.T) {
	for _, s := range []state{
		{list: terms(0, 2, 2, 3)}, {list: terms(0, 1, 3)}, {list: terms(0, 3)},
		{snap: api.Entry{Term: 2, Index: 1, Data: "s"}, list: terms(1, 2, 3)}, {snap: api.Entry{Term: 3, Index: 2}}, {snap: api.Entry{Term: 1, Index: 2}, list: terms(2, 3)},
	} {
		for after := range s.end().Index + 1 {
			for _, l2 := range [][]int{{1}, {2}, {3}, {4}, {1, 1}, {1, 2}, {1, 3}, {2, 2}, {2, 3}, {2, 4}, {3, 3}, {3, 4}, {2, 2, 2}, {2, 2, 3}, {2, 2, 4}, {2, 3, 3}, {2, 3, 4}, {1, 3, 3}, {3, 3, 3}, {2, 2, 3, 3}, {2, 2, 3, 5}, {1, 3, 3, 4}, {2, 2, 2, 2, 2}} {
				list := terms(after, l2...)
				for i := range list {
					list[i].Data = "new"
				}
				p := paper{state: s, disk: made(t, 10000)}
				switch e := p.put(after, list); {
				case e != api.OK || p.same(s):
					wantLeft(t, put(after, list...), e, s)
				default:
					wantTurned(t, put(after, list...), s, p.state)
				}
			}
		}
	}
}

func TestPutByHand(t *testing.T) {
	was := state{list: terms(0, 1, 1, 2, 4)}
	other := func(list []api.Entry) []api.Entry {
		for i := range list {
			list[i].Data = "other"
		}
		return list
	}
	// What is there already stays, with its own data, and so does what is behind it.
	wantLeft(t, put(0, other(terms(0, 1, 1, 2, 4))...), api.OK, was)
	wantLeft(t, put(1, other(terms(1, 1, 2))...), api.OK, was)
	wantLeft(t, put(0, other(terms(0, 1))...), api.OK, was)
	// What is another one makes an end of all behind it.
	wantTurned(t, put(1, other(terms(1, 3))...), was, state{list: append(terms(0, 1), other(terms(1, 3))...)})
	wantTurned(t, put(0, other(terms(0, 1, 1, 3))...), was, state{list: append(terms(0, 1, 1), other(terms(2, 3))...)})
	wantTurned(t, put(0, other(terms(0, 2))...), was, state{list: other(terms(0, 2))})
	wantTurned(t, put(3, other(terms(3, 5))...), was, state{list: append(terms(0, 1, 1, 2), other(terms(3, 5))...)})
	wantTurned(t, put(4, other(terms(4, 4, 5))...), was, state{list: append(terms(0, 1, 1, 2, 4), other(terms(4, 4, 5))...)})
	// One is another one, those behind it are alike: they are written, too.
	wantTurned(t, put(1, other(terms(1, 2, 2, 4))...), was, state{list: append(terms(0, 1), other(terms(1, 2, 2, 4))...)})
	// Less than the one ahead of it.
	wantLeft(t, put(4, terms(4, 3)...), api.ErrArg, was)
	wantLeft(t, put(3, terms(3, 1)...), api.ErrArg, was)
	wantLeft(t, put(2, terms(2, 2, 1)...), api.ErrArg, was)
	wantLeft(t, put(1, terms(1, 1, 2, 4, 4)...), api.OK, state{list: terms(0, 1, 1, 2, 4, 4)})
	was = state{snap: api.Entry{Term: 5, Index: 2, Data: "s"}}
	wantLeft(t, put(2, terms(2, 4)...), api.ErrArg, was)
	wantLeft(t, put(0, terms(0, 1, 1, 1)...), api.ErrArg, was)
	wantLeft(t, put(0, terms(0, 1, 1)...), api.OK, was)
	wantTurned(t, put(0, terms(0, 1, 1, 5)...), was, state{snap: was.snap, list: terms(2, 5)})
	wantTurned(t, put(1, terms(1, 9, 9, 9)...), was, state{snap: was.snap, list: terms(2, 9, 9)})
}

func TestPutWithoutRoom(t *testing.T) {
	snap := api.Entry{Term: 1, Index: 3, Data: "snapshot"}
	for _, c := range []struct {
		was   state
		after int
		list  []api.Entry
		stay  int
	}{
		{state{}, 0, row(0, 1, 1), 0},
		{state{}, 0, row(0, 3, 1), 0},
		{state{list: row(0, 3, 1)}, 3, row(3, 1, 1), 3},
		{state{list: row(0, 3, 1)}, 3, row(3, 9, 1), 3},
		// What is gone is room.
		{state{list: row(0, 3, 1)}, 2, row(2, 4, 2), 2},
		{state{list: row(0, 3, 1)}, 1, row(1, 4, 2), 1},
		{state{list: row(0, 3, 1)}, 0, row(0, 4, 2), 0},
		{state{list: row(0, 3, 1)}, 0, terms(0, 1, 2, 2, 2, 2), 1},
		{state{snap: snap, list: row(3, 3, 1)}, 0, row(0, 9, 2), 0},
		{state{snap: snap, list: row(3, 3, 1)}, 4, row(4, 9, 2), 1},
		{state{snap: snap}, 3, row(3, 2, 2), 0},
	} {
		d := made(t, 5000)
		l := begun(t, d, c.was)
		want := c.was
		fresh := c.list[c.was.snap.Index+c.stay-c.after:]
		want.list = append(slices.Clone(c.was.list[:c.stay]), fresh...)
		need := len(logFile(fresh...)) - len(logFile(c.was.list[c.stay:]...))
		if need < 1 {
			t.Fatalf("%v needs %d", c, need)
		}
		for _, free := range []int{0, need / 2, need - 1} {
			stuff(t, d, free)
			wantLeftOn(t, d, l, put(c.after, c.list...), api.ErrFull, c.was)
		}
		// What is wrong is told ahead, and what is nothing new needs no room.
		stuff(t, d, 0)
		wantLeftOn(t, d, l, put(c.after, api.Entry{Index: c.after + 1}), api.ErrArg, c.was)
		wantLeftOn(t, d, l, put(c.was.snap.Index, c.was.list...), api.OK, c.was)
		stuff(t, d, need)
		must(t, l.Put(c.after, c.list))
		wantKept(t, d, l, want)
	}
}

// Terms that fall are told ahead of there being no room.
func TestPutOfATermThatFallsWithoutRoom(t *testing.T) {
	d := made(t, 500)
	was := state{snap: api.Entry{Term: 2, Index: 3}, list: row(3, 2, 3)}
	l := begun(t, d, was)
	stuff(t, d, 0)
	wantLeftOn(t, d, l, put(5, row(5, 1, 2)...), api.ErrArg, was)
	wantLeftOn(t, d, l, put(3, row(3, 9, 1)...), api.ErrArg, was)
	wantLeftOn(t, d, l, put(5, row(5, 1, 3)...), api.ErrFull, was)
}

// Less room is needed than there was: also a full disk takes it.
func TestPutOfLessOnAFullDisk(t *testing.T) {
	for _, was := range []state{{list: row(0, 5, 1)}, {snap: api.Entry{Term: 1, Index: 3}, list: row(3, 5, 1)}} {
		for stay := range 5 {
			d := made(t, 500)
			l := begun(t, d, was)
			stuff(t, d, 0)
			after := was.snap.Index + stay
			must(t, l.Put(after, row(after, 1, 2)))
			want := was
			want.list = append(slices.Clone(was.list[:stay]), row(after, 1, 2)...)
			wantKept(t, d, l, want)
		}
	}
}

func TestPutWithTooManyFiles(t *testing.T) {
	d := made(t, 1000)
	l := opened(t, d, "r")
	crowd(t, d, api.MaxFiles)
	wantLeftOn(t, d, l, put(0, row(0, 1, 1)...), api.ErrMany, state{})
	wantLeftOn(t, d, l, put(0), api.OK, state{})
	// The promise names ErrFull, and not ErrMany.
	stuffed := d.Clone()
	must(t, stuffed.Replace("crowd0", strings.Repeat("s", stuffed.Free())))
	wantLeftOn(t, stuffed, opened(t, stuffed, "r"), put(0, row(0, 1, 1)...), api.ErrFull, state{})
	must(t, d.Remove("crowd0"), l.Put(0, row(0, 1, 1)), l.Put(1, row(1, 1, 1)), l.Put(0, row(0, 1, 2)))
	wantKept(t, d, l, state{list: row(0, 1, 2)})
}

// L9.5

func TestSnapRefuses(t *testing.T) {
	long := strings.Repeat("x", 60001)
	for _, s := range []state{{}, {list: row(0, 3, 4)}, {snap: api.Entry{Term: 4, Index: 5, Data: "s"}, list: row(5, 3, 4)}, {snap: api.Entry{Term: most, Index: most}}} {
		for _, n := range append(slices.Clone(wrong), 0) {
			for _, data := range []string{"", "d", long} {
				wantLeft(t, snap(n, 5, data), api.ErrArg, s)
				wantLeft(t, snap(6, n, data), api.ErrArg, s)
				wantLeft(t, snap(n, n, data), api.ErrArg, s)
				wantLeft(t, snap(1, n, data), api.ErrArg, s)
			}
		}
		for _, index := range []int{1, 5, 6, most} {
			for _, term := range []int{1, 4, most} {
				wantLeft(t, snap(index, term, long), api.ErrLong, s)
			}
		}
		for index := 1; index <= min(s.snap.Index, 9); index++ {
			for _, term := range []int{1, 3, 4, 5, most} {
				wantLeft(t, snap(index, term, "d"), api.ErrRange, s)
			}
		}
	}
	s := state{snap: api.Entry{Term: 4, Index: 5, Data: "s"}, list: row(5, 3, 4)}
	for _, index := range []int{6, 8, 9, most} {
		for _, term := range []int{1, 3} {
			wantLeft(t, snap(index, term, "d"), api.ErrArg, s)
		}
	}
}

func TestSnap(t *testing.T) {
	for _, was := range []state{{}, {term: 7, vote: 1, list: terms(0, 2, 2, 3, 5)}, {snap: api.Entry{Term: 2, Index: 2, Data: "s"}, list: terms(2, 2, 2, 3, 5)}, {term: 7, snap: api.Entry{Term: 2, Index: 2, Data: "s"}}} {
		for index := was.snap.Index + 1; index < was.snap.Index+8; index++ {
			for term := 2; term < 8; term++ {
				for _, data := range []string{"", "d", "longer"} {
					want := state{term: was.term, vote: was.vote, snap: api.Entry{Term: term, Index: index, Data: data}}
					for _, x := range was.list {
						if x.Index == index && x.Term == term {
							want.list = was.list[index-was.snap.Index:]
						}
					}
					wantTurned(t, snap(index, term, data), was, want)
				}
			}
		}
	}
}

func TestSnapAtTheEdges(t *testing.T) {
	was := state{list: terms(0, 1, 2)}
	for _, x := range []api.Entry{{Term: 1, Index: 1, Data: strings.Repeat("\x00", 60000)}, {Term: most, Index: most, Data: strings.Repeat("x", 60000)}, {Term: most, Index: 1}, {Term: 1, Index: most}} {
		want := state{snap: x}
		if x.Index == 1 && x.Term == 1 {
			want.list = was.list[1:]
		}
		wantTurned(t, snap(x.Index, x.Term, x.Data), was, want)
	}
}

// The file of entries is written anew only if there is one.
func TestSnapMakesNoFileOfEntries(t *testing.T) {
	d := made(t, 1000)
	l := opened(t, d, "r")
	must(t, l.Snap(3, 2, "s"), l.Snap(4, 2, "s"))
	if names := d.Names(); !slices.Equal(names, []string{"r.snap"}) {
		t.Fatalf("files: %v", names)
	}
	must(t, l.Put(4, row(4, 2, 2)), l.Snap(6, 2, "s"))
	if names := d.Names(); !slices.Equal(names, []string{"r.log", "r.snap"}) {
		t.Fatalf("files: %v", names)
	}
	must(t, l.Snap(7, 2, "s"))
	wantKept(t, d, l, state{snap: api.Entry{Term: 2, Index: 7, Data: "s"}})
}

func TestSnapThatTheDiskRefuses(t *testing.T) {
	for _, was := range []state{{}, {term: 5, vote: 2, list: row(0, 9, 1)}, {snap: api.Entry{Term: 1, Index: 1, Data: "s"}, list: row(1, 9, 1)}} {
		to := api.Entry{Term: 1, Index: 3, Data: "some data"}
		d := made(t, 1000)
		l := begun(t, d, was)
		need := len(snapFile(to)) - d.Size("r.snap")
		// The entries' room is not free yet when the snapshot is written.
		for _, free := range []int{0, need - 1} {
			stuff(t, d, free)
			wantLeftOn(t, d, l, snap(to.Index, to.Term, to.Data), api.ErrFull, was)
			wantLeftOn(t, d, l, snap(to.Index, 9, to.Data), api.ErrFull, was)
		}
		stuff(t, d, need)
		must(t, l.Snap(to.Index, to.Term, to.Data))
		want := was
		want.snap, want.list = to, nil
		for _, x := range was.list {
			if x.Index > to.Index {
				want.list = append(want.list, x)
			}
		}
		wantKept(t, d, l, want)
	}
	was := state{list: row(0, 3, 1)}
	d := made(t, 1000)
	l := begun(t, d, was)
	crowd(t, d, api.MaxFiles)
	wantLeftOn(t, d, l, snap(2, 1, "s"), api.ErrMany, was)
	must(t, d.Remove("crowd0"), l.Snap(2, 1, "s"), l.Snap(3, 1, "t"))
	wantKept(t, d, l, state{snap: api.Entry{Term: 1, Index: 3, Data: "t"}})
}

// A prefix with which no file can be called is that of a log without files.
func TestAPrefixThatIsNone(t *testing.T) {
	for _, prefix := range []string{"A", "a b", "\x00", "é", strings.Repeat("r", 61), strings.Repeat("r", 70000)} {
		d := made(t, 1000)
		l := opened(t, d, prefix)
		wantLeftOn(t, d, l, turn(1, 1), api.ErrArg, state{})
		wantLeftOn(t, d, l, put(0, row(0, 1, 1)...), api.ErrArg, state{})
		wantLeftOn(t, d, l, snap(1, 1, "s"), api.ErrArg, state{})
		wantLeftOn(t, d, l, turn(0, 0), api.OK, state{})
	}
	// Of 60 bytes two names are too long by one byte.
	d := made(t, 1000)
	l := opened(t, d, strings.Repeat("r", 60))
	wantErr(t, "Turn", l.Turn(1, 1), api.ErrArg)
	wantErr(t, "Snap", l.Snap(1, 1, "s"), api.ErrArg)
	must(t, l.Put(0, row(0, 1, 1)))
	wantState(t, opened(t, d, strings.Repeat("r", 60)), state{list: row(0, 1, 1)})
	// And nothing is a prefix, too.
	for _, prefix := range []string{"", ".", "-", strings.Repeat("r", 59)} {
		d := made(t, 1000)
		l := opened(t, d, prefix)
		must(t, l.Turn(1, 1), l.Put(0, row(0, 3, 1)), l.Snap(1, 1, "s"))
		wantState(t, opened(t, d, prefix), state{term: 1, vote: 1, snap: api.Entry{Term: 1, Index: 1, Data: "s"}, list: row(1, 2, 1)})
		if names := d.Names(); !slices.Equal(names, []string{prefix + ".log", prefix + ".snap", prefix + ".term"}) {
			t.Fatalf("files: %q", names)
		}
	}
}

// Logs of one disk do not share what they keep.
func TestLogsStandByThemselves(t *testing.T) {
	d := made(t, 1000)
	one, other := begun(t, d, state{term: 3, vote: 1, list: row(0, 3, 1)}), opened(t, d, "s")
	must(t, other.Turn(9, 9), other.Snap(4, 4, "s"), other.Put(4, row(4, 1, 9)))
	wantKept(t, d, one, state{term: 3, vote: 1, list: row(0, 3, 1)})
	wantState(t, other, state{term: 9, vote: 9, snap: api.Entry{Term: 4, Index: 4, Data: "s"}, list: row(4, 1, 9)})
	twin := opened(t, d.Clone(), "r")
	must(t, twin.Put(1, row(1, 1, 5)), twin.Turn(4, 0), twin.Snap(1, 1, "x"))
	wantKept(t, d, one, state{term: 3, vote: 1, list: row(0, 3, 1)})
}

func TestALogThatOpenDidNotMake(t *testing.T) {
	var l raftlog.Log
	wantState(t, &l, state{})
	wantErr(t, "Turn", l.Turn(1, 1), api.ErrFull)
	wantErr(t, "Turn to what is there", l.Turn(0, 0), api.OK)
	wantErr(t, "Put", l.Put(0, row(0, 1, 1)), api.ErrFull)
	wantErr(t, "Put of none", l.Put(0, nil), api.OK)
	wantErr(t, "Put beyond", l.Put(1, nil), api.ErrRange)
	wantErr(t, "Snap", l.Snap(1, 1, ""), api.ErrFull)
	wantErr(t, "Snap of a wrong one", l.Snap(0, 1, ""), api.ErrArg)
	wantState(t, &l, state{})
}

// Files that others took away, or cut, are not meant; no call panics then.
func TestFilesThatOthersTookAway(t *testing.T) {
	for _, left := range []string{"", "\x00", strings.Repeat("\xff", 100)} {
		for _, s := range []step{turn(9, 9), put(3, row(3, 1, 9)...), put(2, row(2, 1, 9)...), put(0, row(0, 1, 9)...), snap(2, 1, "s"), snap(9, 9, "s")} {
			for _, name := range []string{"r.log", "r.term", "r.snap"} {
				for _, free := range []int{0, 500} {
					d := made(t, 1000)
					l := begun(t, d, state{term: 1, vote: 1, list: row(0, 3, 1)})
					if d.Size(name) > 0 {
						must(t, d.Remove(name))
					}
					if left != "" {
						must(t, d.Replace(name, left))
					}
					stuff(t, d, free)
					if free == 500 {
						crowd(t, d, api.MaxFiles)
					}
					s.call(l)
					s.call(l)
					raftlog.Open(d, "r")
				}
			}
		}
	}
}

func TestTheChaptersExamples(t *testing.T) {
	d := made(t, 10000)
	l := opened(t, d, "r")
	for _, c := range []struct {
		term, vote int
		want       api.Errno
	}{{1, 2, api.OK}, {1, 3, api.ErrState}, {0, 0, api.ErrFenced}, {2, 0, api.OK}} {
		wantErr(t, turn(c.term, c.vote).what, l.Turn(c.term, c.vote), c.want)
	}
	wantKept(t, d, l, state{term: 2})
	must(t, l.Put(0, row(0, 2, 1)))
	wantKept(t, d, l, state{term: 2, list: row(0, 2, 1)})
	must(t, l.Put(1, row(1, 1, 2)))
	wantKept(t, d, l, state{term: 2, list: terms(0, 1, 2)})
	must(t, l.Put(1, row(1, 2, 2)))
	wantErr(t, "Put(5, none)", l.Put(5, nil), api.ErrRange)
	wantKept(t, d, l, state{term: 2, list: terms(0, 1, 2, 2)})
	must(t, l.Snap(2, 2, "s"))
	wantKept(t, d, l, state{term: 2, snap: api.Entry{Term: 2, Index: 2, Data: "s"}, list: terms(2, 2)})
	must(t, l.Put(0, row(0, 3, 2)))
	wantKept(t, d, l, state{term: 2, snap: api.Entry{Term: 2, Index: 2, Data: "s"}, list: terms(2, 2)})
	must(t, l.Snap(9, 5, "t"))
	wantKept(t, d, l, state{term: 2, snap: api.Entry{Term: 5, Index: 9, Data: "t"}})
}
