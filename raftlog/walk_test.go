package raftlog_test

import (
	"math/rand"
	"slices"
	"strconv"
	"strings"
	"testing"

	"logboom/api"
	"logboom/disk"
	"logboom/raftlog"
)

// paper is the document's log as plainly as it can be written, on a disk of its own: the walks hold the log, and its disk, against it.
type paper struct {
	state
	disk *disk.Disk
}

func (p *paper) same(s state) bool {
	return p.term == s.term && p.vote == s.vote && p.snap == s.snap && slices.Equal(p.list, s.list)
}

func (p *paper) turn(term, vote int) api.Errno {
	switch {
	case !within(term, 0) || !within(vote, 0):
		return api.ErrArg
	case term < p.term:
		return api.ErrFenced
	case term == p.term && p.vote != 0 && p.vote != vote:
		return api.ErrState
	case term == p.term && vote == p.vote:
		return api.OK
	}
	e := p.disk.Replace("r.term", termFile(term, vote))
	if e == api.OK {
		p.term, p.vote = term, vote
	}
	return e
}

func (p *paper) has(x api.Entry) bool {
	for _, y := range p.list {
		if y.Index == x.Index && y.Term == x.Term {
			return true
		}
	}
	return false
}

func (p *paper) put(after int, list []api.Entry) api.Errno {
	if after < 0 || after > p.end().Index {
		return api.ErrRange
	}
	for i, x := range list {
		if x.Index != after+i+1 || !within(x.Term, 1) || i > 0 && x.Term < list[i-1].Term || x.Index > most {
			return api.ErrArg
		}
		if len(x.Data) > 2048 {
			return api.ErrLong
		}
	}
	for len(list) > 0 && list[0].Index <= p.snap.Index {
		list = list[1:]
	}
	for len(list) > 0 && p.has(list[0]) {
		list = list[1:]
	}
	if len(list) == 0 {
		return api.OK
	}
	var all []api.Entry
	ahead := p.snap
	for _, x := range p.list {
		if x.Index < list[0].Index {
			all, ahead = append(all, x), x
		}
	}
	if list[0].Term < ahead.Term {
		return api.ErrArg
	}
	all = append(all, list...)
	if len(logFile(all...)) > p.disk.Free()+len(logFile(p.list...)) {
		return api.ErrFull
	}
	e := p.disk.Replace("r.log", logFile(all...))
	if e == api.OK {
		p.list = all
	}
	return e
}

func (p *paper) snapTo(index, term int, data string) api.Errno {
	switch {
	case !within(index, 1) || !within(term, 1):
		return api.ErrArg
	case len(data) > 60000:
		return api.ErrLong
	case index <= p.snap.Index:
		return api.ErrRange
	case term < p.snap.Term:
		return api.ErrArg
	}
	x := api.Entry{Term: term, Index: index, Data: data}
	if e := p.disk.Replace("r.snap", snapFile(x)); e != api.OK {
		return e
	}
	var left []api.Entry
	for _, y := range p.list {
		if y.Index > index && p.has(x) {
			left = append(left, y)
		}
	}
	p.snap, p.list = x, left
	if slices.Contains(p.disk.Names(), "r.log") {
		return p.disk.Replace("r.log", logFile(left...))
	}
	return api.OK
}

// wantFollows asks for what follows from any calls: entries follow one another.
func wantFollows(t *testing.T, l *raftlog.Log) {
	t.Helper()
	index, term, _ := l.Snapshot()
	for _, x := range l.From(l.First(), 1000000) {
		if x.Index != index+1 || x.Term < term || x.Term < 1 || x.Index > most {
			t.Fatalf("%v stands behind %d of %d", x, index, term)
		}
		index, term = x.Index, x.Term
	}
	if a, b := l.Last(); a != index || b != term {
		t.Fatalf("Last: got %d, %d, want %d, %d", a, b, index, term)
	}
}

// chance makes choices, always the same ones for one seed.
type chance struct{ *rand.Rand }

// near is a number from a bit below n to a bit above; sometimes it is any.
func (c chance) near(n int) int {
	if c.Intn(100) == 0 {
		return []int{-1, 0, 1, most, most + 1}[c.Intn(5)]
	}
	return n - 2 + c.Intn(5)
}

// entries is some to be put behind an index: of what is there, and then of other terms; sometimes one is wrong.
func (c chance) entries(p *paper, after int) []api.Entry {
	var list []api.Entry
	term := 1 + c.Intn(p.end().Term+2)
	other := c.Intn(6)
	for i := range c.Intn(7) {
		x := api.Entry{Term: term, Index: after + 1 + i, Data: strings.Repeat("d", c.Intn(12))}
		if at := after + i - p.snap.Index; i < other && at >= 0 && at < len(p.list) {
			x.Term = p.list[at].Term
		} else if i > 0 {
			x.Term = list[i-1].Term + c.Intn(20)/19
		}
		term = x.Term
		switch c.Intn(150) {
		case 0:
			x.Term--
		case 1:
			x.Index++
		case 2:
			x.Data = strings.Repeat("d", 2047+c.Intn(3))
		}
		list = append(list, x)
	}
	return list
}

func TestWalks(t *testing.T) {
	told := map[api.Errno]int{}
	for seed := range 200 {
		walk(t, chance{rand.New(rand.NewSource(int64(seed)))}, told)
	}
	for _, e := range []api.Errno{api.OK, api.ErrArg, api.ErrLong, api.ErrRange, api.ErrFenced, api.ErrState, api.ErrFull, api.ErrMany} {
		if told[e] < 50 {
			t.Errorf("%d was told %d times", int(e), told[e])
		}
	}
}

func walk(t *testing.T, c chance, told map[api.Errno]int) {
	t.Helper()
	d := made(t, []int{60, 200, 400, 3000, 100000}[c.Intn(5)])
	if c.Intn(4) == 0 {
		crowd(t, d, api.MaxFiles-c.Intn(4))
	}
	p := &paper{disk: d.Clone()}
	l := opened(t, d, "r")
	votes := map[int]int{}
	for i := range 150 {
		what := "step " + strconv.Itoa(i)
		was := l.Term()
		var got, want api.Errno
		switch c.Intn(10) {
		case 0, 1:
			term, vote := c.near(p.term+1), c.Intn(4)
			got, want = l.Turn(term, vote), p.turn(term, vote)
		case 2:
			index, term := c.near(p.snap.Index+1+c.Intn(len(p.list)+1)), c.near(p.snap.Term+1)
			if x, ok := l.At(index); ok && c.Intn(3) > 0 {
				term = x.Term
			}
			data := strings.Repeat("s", c.Intn(30))
			if c.Intn(40) == 0 {
				data = strings.Repeat("s", 59999+c.Intn(3))
			}
			got, want = l.Snap(index, term, data), p.snapTo(index, term, data)
		case 3:
			l = c.again(t, d, p)
		case 4:
			name, b := "stuff", strings.Repeat("s", c.Intn(100))
			if d.Replace(name, b) != p.disk.Replace(name, b) {
				t.Fatalf("%s: the disks are not alike", what)
			}
		default:
			after := c.near(p.snap.Index + 1 + c.Intn(len(p.list)+2))
			if c.Intn(3) == 0 {
				after = p.end().Index
			}
			list := c.entries(p, after)
			got, want = l.Put(after, list), p.put(after, list)
		}
		told[want]++
		wantErr(t, what, got, want)
		wantState(t, l, p.state)
		wantFollows(t, l)
		if a, b := picture(d), picture(p.disk); a != b {
			t.Fatalf("%s: the disk is\n%.2000s\nwant\n%.2000s", what, a, b)
		}
		if l.Term() < was || votes[l.Term()] != 0 && votes[l.Term()] != l.Vote() {
			t.Fatalf("%s: term %d and vote %d, the term was %d, the vote in it %d", what, l.Term(), l.Vote(), was, votes[l.Term()])
		}
		votes[l.Term()] = l.Vote()
	}
}

// again opens the log anew, mostly behind a crash, which may leave a torn entry at the end.
func (c chance) again(t *testing.T, d *disk.Disk, p *paper) *raftlog.Log {
	t.Helper()
	if c.Intn(3) == 0 && (len(d.Names()) < api.MaxFiles || slices.Contains(d.Names(), "r.log")) {
		b := logFile(api.Entry{Term: 1, Index: 1, Data: "torn"})
		d.Append("r.log", b[:c.Intn(len(b))])
		p.disk.Append("r.log", "")
	}
	if c.Intn(3) > 0 {
		d.Crash([]int{c.Intn(100)})
	}
	return opened(t, d, "r")
}

// A crash behind each call, and Open anew: all that was told OK stays, and what was refused is not there.
func TestACrashBehindEachCall(t *testing.T) {
	was := state{term: 4, vote: 2, snap: api.Entry{Term: 1, Index: 3, Data: "snapshot"}, list: terms(3, 1, 2, 2, 4)}
	for _, s := range []step{
		turn(4, 2), turn(5, 0), turn(5, 3), turn(3, 3), turn(4, 3),
		put(7, row(7, 3, 4)...), put(7, row(7, 1, 3)...), put(5, row(5, 3, 4)...), put(3, row(3, 1, 4)...), put(0, terms(0, 1, 1, 1, 1, 2, 3)...),
		snap(5, 2, "more"), snap(5, 3, "more"), snap(7, 4, ""), snap(9, 9, "more"), snap(3, 1, "more"),
	} {
		for _, free := range []int{0, 5, 20, 1000} {
			for _, keep := range [][]int{nil, {0}, {1}, {7}, {-1}} {
				d := made(t, 5000)
				l := begun(t, d, was)
				stuff(t, d, free)
				e := s.call(l)
				_, term, data := l.Snapshot()
				want := state{l.Term(), l.Vote(), api.Entry{Term: term, Index: l.First() - 1, Data: data}, l.From(l.First(), 99)}
				if p := (paper{state: was}); e != api.OK && !p.same(want) {
					t.Fatalf("%s: %d, and %v", s.what, int(e), want)
				}
				d.Append("loose", "bytes")
				d.Crash(keep)
				wantKept(t, d, opened(t, d, "r"), want)
			}
		}
	}
}

// A long log takes many entries one by one, and forgets them by snapshots.
func TestALongLog(t *testing.T) {
	d := made(t, api.MaxDisk)
	l := opened(t, d, "r")
	for i := range 20000 {
		if e := l.Put(i, []api.Entry{{Term: 1 + i/100, Index: i + 1, Data: "some data"}}); e != api.OK {
			t.Fatalf("Put of %d: %v", i, e)
		}
	}
	for i := range 200 {
		// The last one again and again, by ever later terms.
		must(t, l.Put(19999, []api.Entry{{Term: 300 + i, Index: 20000}}))
	}
	again := opened(t, d, "r")
	if index, term := again.Last(); index != 20000 || term != 499 || len(again.From(1, 30000)) != 20000 {
		t.Fatalf("Last: %d, %d", index, term)
	}
	for index := 1000; index <= 20000; index += 1000 {
		x, _ := again.At(index)
		must(t, again.Snap(index, x.Term, "s"))
	}
	wantKept(t, d, again, state{snap: api.Entry{Term: 499, Index: 20000, Data: "s"}})
}
