package raftlog_test

import (
	"encoding/binary"
	"math"
	"math/rand"
	"slices"
	"strconv"
	"strings"
	"testing"

	"logboom/api"
	"logboom/disk"
	"logboom/raftlog"
)

// files is the bytes of files, by their names.
type files map[string]string

// laid is a disk with those files.
func laid(t *testing.T, f files) *disk.Disk {
	t.Helper()
	d := made(t, 1000000)
	for name, b := range f {
		must(t, d.Replace(name, b))
	}
	return d
}

// wantOpen asks for the state that Open makes of files, and that it leaves them as they are.
func wantOpen(t *testing.T, f files, want state) {
	t.Helper()
	d := laid(t, f)
	before := picture(d)
	wantState(t, opened(t, d, "r"), want)
	if got := picture(d); got != before {
		t.Fatalf("the disk was\n%.2000s\nis\n%.2000s", before, got)
	}
}

// wantRefused asks that Open refuses files, and leaves them as they are.
func wantRefused(t *testing.T, f files, want api.Errno) {
	t.Helper()
	d := laid(t, f)
	before := picture(d)
	l, e := raftlog.Open(d, "r")
	if l != nil || e != want {
		t.Fatalf("Open of %.300q: got %d, want %d", f, int(e), int(want))
	}
	if got := picture(d); got != before {
		t.Fatalf("the disk was\n%.2000s\nis\n%.2000s", before, got)
	}
}

func TestOpenOfFilesThatAreNotThere(t *testing.T) {
	all := files{"r.term": termFile(5, 2), "r.snap": snapFile(api.Entry{Term: 3, Index: 2, Data: "s"}), "r.log": logFile(terms(2, 3, 4)...), "q.term": "x", "r": "x", "r.": "x", "r.logs": "x", "rr.snap": "x", ".log": "x"}
	whole := state{5, 2, api.Entry{Term: 3, Index: 2, Data: "s"}, terms(2, 3, 4)}
	wantOpen(t, all, whole)
	for i := range 8 {
		f, want := files{}, whole
		for name, b := range all {
			f[name] = b
		}
		if i&1 != 0 {
			delete(f, "r.term")
			want.term, want.vote = 0, 0
		}
		if i&2 != 0 {
			delete(f, "r.snap")
			want.snap, want.list = api.Entry{}, terms(0, 3, 4)
			f["r.log"] = logFile(want.list...)
		}
		if i&4 != 0 {
			delete(f, "r.log")
			want.list = nil
		}
		wantOpen(t, f, want)
	}
}

func TestOpenOfTerms(t *testing.T) {
	for _, c := range [][2]int{{0, 0}, {0, 1}, {1, 0}, {63, 64}, {0, most}, {most, 0}, {most, most}} {
		wantOpen(t, files{"r.term": termFile(c[0], c[1])}, state{term: c[0], vote: c[1]})
	}
	for _, n := range wrong {
		wantRefused(t, files{"r.term": termFile(n, 1)}, api.ErrForm)
		wantRefused(t, files{"r.term": termFile(1, n)}, api.ErrForm)
	}
	for _, rest := range []string{"", ints(1), ints(1, 2, 3), ints(1, 2) + "\x80", "\x80\x00\x02", "\x02\x80\x00", ints(1) + "\x80", "\x80"} {
		wantRefused(t, files{"r.term": sealed(rest)}, api.ErrForm)
	}
	wantSealed(t, "r.term", termFile(5, 2))
}

// wantSealed asks for what is told of a file with a checksum when it is cut, or a byte of it is another one, or more.
func wantSealed(t *testing.T, name, right string) {
	t.Helper()
	for n := range len(right) {
		want := api.ErrSum
		if n < 4 {
			want = api.ErrShort
		}
		wantRefused(t, files{name: right[:n]}, want)
		b := []byte(right)
		b[n] ^= 1 << (n % 8)
		wantRefused(t, files{name: string(b)}, api.ErrSum)
	}
	wantRefused(t, files{name: right + "\x00"}, api.ErrSum)
	wantRefused(t, files{name: sealed(right[4:] + "\x00")}, api.ErrForm)
}

func TestOpenOfSnapshots(t *testing.T) {
	for _, x := range []api.Entry{{Term: 1, Index: 1}, {Term: 1, Index: most, Data: "d"}, {Term: most, Index: 1, Data: "\x00"}, {Term: most, Index: most, Data: strings.Repeat("\xff", 60000)}, {Term: 7, Index: 5, Data: strings.Repeat("a", 64)}} {
		wantOpen(t, files{"r.snap": snapFile(x)}, state{snap: x})
	}
	for _, n := range append(slices.Clone(wrong), 0) {
		wantRefused(t, files{"r.snap": snapFile(api.Entry{Term: n, Index: 1})}, api.ErrForm)
		wantRefused(t, files{"r.snap": snapFile(api.Entry{Term: 1, Index: n})}, api.ErrForm)
	}
	wantRefused(t, files{"r.snap": snapFile(api.Entry{Term: 1, Index: 1, Data: strings.Repeat("x", 60001)})}, api.ErrForm)
	for _, rest := range []string{
		"", ints(1), ints(1, 1), ints(1, 1, 1), ints(1, 1, 2) + "a", ints(1, 1, 1) + "ab", ints(1, 1, 0) + "a", ints(1, 1, -1), ints(1, 1, -1) + "a",
		ints(1, 1, math.MaxInt) + "a", ints(1, 1, math.MinInt) + "a", ints(1, 1) + "\x80\x00", ints(1, 1) + "\x82\x00a", "\x82\x00" + ints(1, 0), ints(1, 1) + "\x80",
	} {
		wantRefused(t, files{"r.snap": sealed(rest)}, api.ErrForm)
	}
	wantSealed(t, "r.snap", snapFile(api.Entry{Term: 3, Index: 200, Data: "some"}))
}

func TestOpenOfEntries(t *testing.T) {
	for _, list := range [][]api.Entry{
		nil, row(0, 1, 1), row(0, 1, most), row(0, 200, 3), terms(0, 1, 1, 2, 5, 5, most),
		{{Term: 1, Index: 1, Data: strings.Repeat("\x00", 2048)}, {Term: most, Index: 2, Data: strings.Repeat("\xff", 2048)}, {Term: most, Index: 3}},
	} {
		wantOpen(t, files{"r.log": logFile(list...)}, state{list: list})
	}
	snap := api.Entry{Term: 4, Index: most - 2}
	list := []api.Entry{{Term: 4, Index: most - 1}, {Term: most, Index: most, Data: strings.Repeat("\xff", 2048)}}
	wantOpen(t, files{"r.snap": snapFile(snap), "r.log": logFile(list...)}, state{snap: snap, list: list})
}

// body is an entry's.
func body(term, index int, data string) string { return ints(term, index, len(data)) + data }

func TestOpenOfWrongEntries(t *testing.T) {
	ahead := terms(0, 2, 2)
	var bodies []string
	for _, n := range append(slices.Clone(wrong), 0) {
		bodies = append(bodies, body(n, 3, "d"), body(2, n, "d"))
	}
	bodies = append(bodies,
		"", ints(2), ints(2, 3), ints(2, 3, 1), ints(2, 3, 2)+"a", ints(2, 3, 1)+"ab", ints(2, 3, 0)+"a", ints(2, 3, -1), ints(2, 3, -1)+"a", ints(2, 3, math.MaxInt)+"a", ints(2, 3, math.MinInt),
		ints(2, 3)+"\x80\x00", ints(2)+"\x86\x00"+ints(0), "\x84\x00"+ints(3, 0), ints(2, 3)+"\x80", strings.Repeat("\x00", 2100), strings.Repeat("\xff", 2100),
		body(2, 3, strings.Repeat("x", 2049)), body(2, 3, strings.Repeat("x", 2090)), body(2, 3, "d")+"\x00",
		body(2, 2, "d"), body(2, 4, "d"), body(2, 1, "d"), body(2, most, "d"), body(1, 3, "d"),
	)
	for _, b := range bodies {
		right := framed(body(2, 3, "d"))
		wantRefused(t, files{"r.log": logFile(ahead...) + framed(b)}, api.ErrForm)
		// The first wrong one is told, whatever stands behind it.
		wantRefused(t, files{"r.log": logFile(ahead...) + framed(b) + right}, api.ErrForm)
		wantRefused(t, files{"r.log": logFile(ahead...) + framed(b) + four(1) + "sum x"}, api.ErrForm)
		wantRefused(t, files{"r.log": logFile(ahead...) + framed(b) + "torn"}, api.ErrForm)
		// A wrong sum is told ahead of a wrong form, and what is torn ahead of both.
		wantRefused(t, files{"r.log": logFile(ahead...) + four(len(b)) + crc(b+"x") + b}, api.ErrSum)
		if b != "" {
			wantCut(t, files{"r.log": logFile(ahead...) + four(len(b)) + "sum " + b[1:]}, state{list: ahead}, len(logFile(ahead...)))
		}
	}
	for _, first := range []int{0, 2, 3, most, -1, most + 1} {
		wantRefused(t, files{"r.log": framed(body(2, first, "d"))}, api.ErrForm)
	}
	wantRefused(t, files{"r.log": framed(body(0, 1, "d"))}, api.ErrForm)
}

func TestOpenOfHeads(t *testing.T) {
	ahead := terms(0, 2, 2)
	b := logFile(ahead...)
	for _, n := range []int{2101, 2102, 60000, 65536, 1 << 24, 1 << 30, math.MaxInt32, 1 << 31, math.MaxUint32} {
		for _, behind := range []string{"", "x", strings.Repeat("x", 2100), strings.Repeat("x", 2101), strings.Repeat("x", 2200)} {
			wantRefused(t, files{"r.log": b + four(n) + "sum " + behind}, api.ErrForm)
		}
		// Fewer bytes than a head has tell nothing.
		wantCut(t, files{"r.log": b + four(n) + "sum"}, state{list: ahead}, len(b))
		wantCut(t, files{"r.log": b + four(n)}, state{list: ahead}, len(b))
	}
	for _, n := range []int{1, 2, 2059, 2060, 2099, 2100} {
		for _, left := range []int{0, 1, n / 2, n - 1} {
			wantCut(t, files{"r.log": b + four(n) + "sum " + strings.Repeat("x", min(left, n-1))}, state{list: ahead}, len(b))
		}
		wantRefused(t, files{"r.log": b + four(n) + "sum " + strings.Repeat("x", n)}, api.ErrSum)
		wantRefused(t, files{"r.log": b + framed(strings.Repeat("x", n))}, api.ErrForm)
	}
	wantRefused(t, files{"r.log": b + framed("")}, api.ErrForm)
	wantRefused(t, files{"r.log": b + four(0) + "sum "}, api.ErrSum)
}

// wantCut asks that Open cuts the file of entries to so many bytes, and changes nothing else.
func wantCut(t *testing.T, f files, want state, size int) {
	t.Helper()
	d, after := laid(t, f), laid(t, f)
	must(t, after.Replace("r.log", f["r.log"][:size]))
	l := opened(t, d, "r")
	wantState(t, l, want)
	if got := picture(d); got != picture(after) {
		t.Fatalf("the disk is\n%.2000s\nwant\n%.2000s", got, picture(after))
	}
	// And goes on from there.
	end := want.end()
	must(t, l.Put(end.Index, row(end.Index, 2, end.Term+1)))
	want.list = append(slices.Clone(want.list), row(end.Index, 2, end.Term+1)...)
	wantState(t, l, want)
	wantFile(t, d, "r.log", logFile(want.list...))
	d.Crash(nil)
	wantState(t, opened(t, d, "r"), want)
}

func TestOpenCutsWhatIsTorn(t *testing.T) {
	list := terms(0, 1, 2, 2)
	list[2].Data = strings.Repeat("data", 30)
	whole := logFile(list...)
	ends := []int{0, len(logFile(list[:1]...)), len(logFile(list[:2]...)), len(whole)}
	for size := range whole {
		n := 0
		for n < 2 && ends[n+1] <= size {
			n++
		}
		if size == ends[n] {
			wantOpen(t, files{"r.log": whole[:size]}, state{list: list[:n]})
			continue
		}
		wantCut(t, files{"r.log": whole[:size], "r.term": termFile(9, 1)}, state{term: 9, vote: 1, list: list[:n]}, ends[n])
	}
	// Also where what is left of the entries is none of the log's.
	snap := api.Entry{Term: 1, Index: 1, Data: "s"}
	wantOpen(t, files{"r.log": whole[:ends[1]], "r.snap": snapFile(snap)}, state{snap: snap})
	wantCut(t, files{"r.log": "torn", "r.snap": snapFile(snap)}, state{snap: snap}, 0)
}

func TestOpenToldOfAWrongSum(t *testing.T) {
	list := terms(0, 1, 2, 2)
	whole := logFile(list...)
	at := 0
	for _, x := range list {
		size := len(logFile(x))
		for j := 4; j < size; j++ {
			b := []byte(whole)
			b[at+j] ^= 1 << (j % 8)
			wantRefused(t, files{"r.log": string(b)}, api.ErrSum)
			// Ahead of all that is wrong behind it.
			wantRefused(t, files{"r.log": string(b[:at+size]) + framed("")}, api.ErrSum)
			wantRefused(t, files{"r.log": string(b[:at+size]) + "torn"}, api.ErrSum)
		}
		at += size
		wantRefused(t, files{"r.log": whole[:at] + framed("") + four(1) + "sum x"}, api.ErrForm)
		wantRefused(t, files{"r.log": whole[:at] + four(1) + "sum x" + framed("")}, api.ErrSum)
	}
}

func TestOpenTellsTheFirstFileThatIsWrong(t *testing.T) {
	kinds := map[string][]struct {
		b    string
		want api.Errno
	}{
		"r.term": {{termFile(1, 1), api.OK}, {"abc", api.ErrShort}, {"abcdef", api.ErrSum}, {sealed("x"), api.ErrForm}},
		"r.snap": {{snapFile(api.Entry{Term: 1, Index: 1}), api.OK}, {"", api.ErrShort}, {"abcdef", api.ErrSum}, {sealed("x"), api.ErrForm}},
		"r.log":  {{logFile(terms(0, 1, 1)...), api.OK}, {four(1) + "sum x", api.ErrSum}, {framed(""), api.ErrForm}, {logFile(terms(0, 1, 1)...) + "torn", api.OK}},
	}
	for _, term := range kinds["r.term"] {
		for _, snap := range kinds["r.snap"] {
			for _, log := range kinds["r.log"] {
				f := files{"r.term": term.b, "r.snap": snap.b, "r.log": log.b}
				want := term.want
				if want == api.OK {
					want = snap.want
				}
				if want == api.OK {
					want = log.want
				}
				if want != api.OK {
					wantRefused(t, f, want)
				}
			}
		}
	}
}

// TestOpenLeavesOutWhatLiesInTheSnapshot has the entries begin and end ahead of the snapshot's index, at it, and behind it.
func TestOpenLeavesOutWhatLiesInTheSnapshot(t *testing.T) {
	for first := 1; first <= 8; first++ {
		for n := range 9 {
			for term := 1; term <= 4; term++ {
				snap := api.Entry{Term: term, Index: 5, Data: "s"}
				list := row(first-1, n, 2)
				f := files{"r.snap": snapFile(snap), "r.log": logFile(list...)}
				if n > 0 && first > 6 {
					wantRefused(t, f, api.ErrForm)
					continue
				}
				want := state{snap: snap}
				for _, x := range list {
					if x.Index > 5 {
						want.list = append(want.list, x)
					}
				}
				wantOpen(t, f, want)
				wantGoesOn(t, f, want)
			}
		}
	}
}

// wantGoesOn asks that what is put into a log of those files, anywhere, stays: also if the files have entries that were left out, whose terms and indexes do not go with the new ones.
func wantGoesOn(t *testing.T, f files, was state) {
	t.Helper()
	for at := range len(was.list) + 1 {
		ahead := was.snap
		if at > 0 {
			ahead = was.list[at-1]
		}
		for term := ahead.Term; term < ahead.Term+3; term++ {
			if at < len(was.list) && was.list[at].Term == term {
				continue
			}
			d := laid(t, f)
			l := opened(t, d, "r")
			must(t, l.Put(ahead.Index, row(ahead.Index, 2, term)))
			want := state{snap: was.snap, list: append(slices.Clone(was.list[:at]), row(ahead.Index, 2, term)...)}
			wantState(t, l, want)
			d.Crash(nil)
			l = opened(t, d, "r")
			wantState(t, l, want)
			if term < was.snap.Term {
				// Open takes such entries of files, and Snap does not fall.
				wantErr(t, "Snap", l.Snap(ahead.Index+1, term, "t"), api.ErrArg)
				continue
			}
			must(t, l.Snap(ahead.Index+1, term, "t"))
			want = state{snap: api.Entry{Term: term, Index: ahead.Index + 1, Data: "t"}, list: want.list[at+1:]}
			wantState(t, l, want)
			wantFile(t, d, "r.log", logFile(want.list...))
			wantState(t, opened(t, d, "r"), want)
		}
	}
	d := laid(t, f)
	l := opened(t, d, "r")
	must(t, l.Snap(20, 9, "t"))
	wantState(t, l, state{snap: api.Entry{Term: 9, Index: 20, Data: "t"}})
	wantFile(t, d, "r.log", "")
	wantState(t, opened(t, d, "r"), state{snap: api.Entry{Term: 9, Index: 20, Data: "t"}})
}

// A crash behind Open takes nothing back of what it told, also if others wrote it and did not make it safe.
func TestWhatOpenToldIsSafe(t *testing.T) {
	snap := api.Entry{Term: 1, Index: 2, Data: "s"}
	for _, torn := range []string{"", "torn"} {
		d := made(t, 1000)
		must(t, d.Append("r.term", termFile(3, 1)), d.Append("r.snap", snapFile(snap)), d.Append("r.log", logFile(terms(0, 1, 1, 2, 3)...)+torn))
		want := state{3, 1, snap, terms(2, 2, 3)}
		wantState(t, opened(t, d, "r"), want)
		d.Crash(nil)
		wantState(t, opened(t, d, "r"), want)
	}
	// What is refused stays as it is, also what is not safe of it.
	d := made(t, 1000)
	must(t, d.Append("r.term", termFile(3, 1)), d.Append("r.log", framed("")))
	before := picture(d)
	if l, e := raftlog.Open(d, "r"); l != nil || e != api.ErrForm || picture(d) != before {
		t.Fatalf("Open: %v, %d", l, int(e))
	}
}

// plainInt reads an int at the front of b, by another hand than the program's.
func plainInt(b string) (int, string, bool) {
	n, size := binary.Varint([]byte(b))
	if size <= 0 || ints(int(n)) != b[:size] {
		return 0, "", false
	}
	return int(n), b[size:], true
}

// plainParts reads ints and, if there is to be one, a text behind them, and nothing more.
func plainParts(b string, n int, text bool) ([]int, string, bool) {
	var list []int
	for range n {
		x, rest, ok := plainInt(b)
		if !ok {
			return nil, "", false
		}
		list, b = append(list, x), rest
	}
	if !text {
		return list, "", b == ""
	}
	return list[:n-1], b, list[n-1] == len(b)
}

func within(n, least int) bool { return n >= least && n <= most }

func plainUnseal(b string) (string, api.Errno) {
	if len(b) < 4 {
		return "", api.ErrShort
	}
	if crc(b[4:]) != b[:4] {
		return "", api.ErrSum
	}
	return b[4:], api.OK
}

// plainOpen is the document's Open as plainly as it can be written: what of the file of entries is left, too.
func plainOpen(f files) (s state, left string, e api.Errno) {
	if b, ok := f["r.term"]; ok {
		rest, e := plainUnseal(b)
		if e != api.OK {
			return state{}, "", e
		}
		list, _, ok := plainParts(rest, 2, false)
		if !ok || !within(list[0], 0) || !within(list[1], 0) {
			return state{}, "", api.ErrForm
		}
		s.term, s.vote = list[0], list[1]
	}
	if b, ok := f["r.snap"]; ok {
		rest, e := plainUnseal(b)
		if e != api.OK {
			return state{}, "", e
		}
		list, data, ok := plainParts(rest, 3, true)
		if !ok || !within(list[0], 1) || !within(list[1], 1) || len(data) > 60000 {
			return state{}, "", api.ErrForm
		}
		s.snap = api.Entry{Index: list[0], Term: list[1], Data: data}
	}
	b, at := f["r.log"], 0
	var last api.Entry
	for len(b)-at >= 8 {
		size := int(binary.BigEndian.Uint32([]byte(b[at:])))
		if size > 2100 {
			return state{}, "", api.ErrForm
		}
		if len(b)-at-8 < size {
			break
		}
		body := b[at+8 : at+8+size]
		if crc(body) != b[at+4:at+8] {
			return state{}, "", api.ErrSum
		}
		list, data, ok := plainParts(body, 3, true)
		if !ok || !within(list[0], 1) || !within(list[1], 1) || len(data) > 2048 {
			return state{}, "", api.ErrForm
		}
		x := api.Entry{Term: list[0], Index: list[1], Data: data}
		if at > 0 && (x.Index != last.Index+1 || x.Term < last.Term) || at == 0 && x.Index-s.snap.Index > 1 {
			return state{}, "", api.ErrForm
		}
		if x.Index > s.snap.Index {
			s.list = append(s.list, x)
		}
		last = x
		at += 8 + size
	}
	return s, b[:at], api.OK
}

// wantAsPlain asks Open for what plainOpen makes of files.
func wantAsPlain(t *testing.T, f files) api.Errno {
	t.Helper()
	s, left, e := plainOpen(f)
	switch b, ok := f["r.log"]; {
	case e != api.OK:
		wantRefused(t, f, e)
	case ok && len(left) < len(b):
		d := laid(t, f)
		wantState(t, opened(t, d, "r"), s)
		wantFile(t, d, "r.log", left)
	default:
		wantOpen(t, f, s)
	}
	return e
}

// number is one that may stand in a file.
func (c chance) number() int {
	if c.Intn(30) == 0 {
		return []int{0, -1, most, most + 1, math.MaxInt, math.MinInt}[c.Intn(6)]
	}
	return 1 + c.Intn(4)
}

// data is short, but for once in a while.
func (c chance) data(long int) string {
	if c.Intn(20) == 0 {
		return strings.Repeat("x", long-1+c.Intn(3))
	}
	return "some data"[:c.Intn(10)]
}

// twist has a byte be another one, or takes some away, or adds some; mostly it does nothing.
func (c chance) twist(b string) string {
	if len(b) == 0 {
		return b
	}
	at := c.Intn(len(b))
	switch c.Intn(30) {
	case 0:
		return b[:at]
	case 1:
		return b[:at] + string([]byte{b[at] ^ 1<<c.Intn(8)}) + b[at+1:]
	case 2:
		return b + strings.Repeat("\x00", 1+c.Intn(9))
	case 3:
		return b[:at] + b[min(len(b), at+1+c.Intn(3)):]
	}
	return b
}

// some is the files of a log that may be wrong somewhere.
func (c chance) some() files {
	f := files{}
	if c.Intn(3) > 0 {
		f["r.term"] = c.twist(sealed(c.twist(ints(c.number(), c.number()))))
	}
	snap := 0
	if c.Intn(3) > 0 {
		snap = c.number()
		data := c.data(60000)
		f["r.snap"] = c.twist(sealed(c.twist(ints(snap, c.number(), len(data)) + data)))
	}
	if c.Intn(5) == 0 {
		return f
	}
	b := strings.Builder{}
	index, term := max(1, snap+1-c.Intn(4)), 1
	if c.Intn(10) == 0 {
		index++
	}
	for range c.Intn(7) {
		data := c.data(2048)
		b.WriteString(c.twist(framed(c.twist(ints(term, index, len(data)) + data))))
		if c.Intn(40) > 0 {
			index++
		}
		term += c.Intn(3)
		if c.Intn(30) == 0 {
			term = c.number()
		}
	}
	f["r.log"] = c.twist(b.String())
	return f
}

func TestOpenOfAnyFiles(t *testing.T) {
	told := map[api.Errno]int{}
	for seed := range 12000 {
		told[wantAsPlain(t, chance{rand.New(rand.NewSource(int64(seed)))}.some())]++
	}
	for _, e := range []api.Errno{api.OK, api.ErrShort, api.ErrSum, api.ErrForm} {
		if told[e] < 100 {
			t.Errorf("%d was told %d times", int(e), told[e])
		}
	}
}

// What is written by the program is read by another hand.
func TestWhatIsWrittenIsReadByAnotherHand(t *testing.T) {
	d := made(t, 200000)
	l := opened(t, d, "r")
	must(t, l.Turn(most, 77), l.Snap(100, 3, strings.Repeat("s", 60000)), l.Put(100, row(100, 70, 64)), l.Put(120, terms(120, 65, most)))
	f := files{}
	for _, name := range d.Names() {
		f[name], _ = d.Read(name)
	}
	s, left, e := plainOpen(f)
	if e != api.OK || left != f["r.log"] {
		t.Fatalf("plainOpen: %d, %d of %d bytes", int(e), len(left), len(f["r.log"]))
	}
	wantState(t, l, s)
	if len(s.list) != 22 || s.term != most || s.vote != 77 || s.snap.Index != 100 {
		t.Fatalf("plainOpen: %d entries, %s", len(s.list), strconv.Itoa(s.term))
	}
}
