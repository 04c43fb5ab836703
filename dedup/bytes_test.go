package dedup_test

import (
	"encoding/binary"
	"math"
	"math/rand"
	"slices"
	"strings"
	"testing"

	"logboom/api"
	"logboom/dedup"
)

// wantLoad asks what Load makes of bytes.
func wantLoad(t *testing.T, s string, want api.Errno) *dedup.Table {
	t.Helper()
	x, e := dedup.Load(s)
	if e != want || (x != nil) != (want == api.OK) {
		t.Fatalf("Load of %.300q: got %v, %d, want %d", s, x, int(e), int(want))
	}
	return x
}

// wantLoaded asks that those notes are a table's.
func wantLoaded(t *testing.T, list ...mark) {
	t.Helper()
	wantNotes(t, "Load", wantLoad(t, written(list...), api.OK), list...)
}

// wantNoForm asks that those notes are no table's, also with others around them.
func wantNoForm(t *testing.T, list ...mark) {
	t.Helper()
	wantLoad(t, written(list...), api.ErrForm)
	others := append([]mark{{3, 1, 0, 1, 0}, {5, 0, 0, 1, 1}, {5, 1, 0, 2, 2}, {1 << 29, 0, 0, 1, 0}}, list...)
	wantLoad(t, written(others[:4]...), api.OK)
	wantLoad(t, written(others...), api.ErrForm)
}

// wantNoFormOf asks that the numbers behind the checksum are no table's.
func wantNoFormOf(t *testing.T, numbers ...int) {
	t.Helper()
	wantLoad(t, sealed(ints(numbers...)), api.ErrForm)
}

// beyond are numbers that are none of the document's.
func beyond() []int {
	return []int{-1, -2, most + 1, most + 2, -most, math.MinInt, math.MaxInt, 1 << 32, -1 << 32, math.MinInt + 1}
}

// D8.4: Keep

func TestKeepOfNoNotes(t *testing.T) {
	// The Crc of one byte 0, by its bytes.
	if got := dedup.New().Keep(); got != "\x52\x7d\x53\x51\x00" {
		t.Errorf("Keep: %q", got)
	}
	x := noted(t, mark{7, 0, 0, 1, 10}, mark{8, 0, 0, 1, 11})
	x.Cut(0)
	if got := x.Keep(); got != "\x52\x7d\x53\x51\x00" {
		t.Errorf("Keep of what is cut: %q", got)
	}
}

func TestKeepsBytes(t *testing.T) {
	x := dedup.New()
	x.Note(batch(mark{64, 3, 5, 2, 100}))
	x.Note(batch(mark{64, 3, 7, 64, 102}))
	x.Note(batch(mark{1, 0, 0, 1, 166}))
	rest := "\x04" + "\x02\x02" + "\x00\x00\x02\xcc\x02" + "\x80\x01\x04" + "\x06\x0a\x04\xc8\x01" + "\x06\x0e\x80\x01\xcc\x01"
	if got := x.Keep(); got != sealed(rest) {
		t.Errorf("Keep: got %q, want %q", got, sealed(rest))
	}
}

func TestKeepTellsProducersByRisingIds(t *testing.T) {
	r := rand.New(rand.NewSource(1))
	pids := []int{1, 2, 9, 10, 63, 64, 100, 127, 128, 8191, 8192, 1 << 20, most - 1, most}
	for range 50 {
		r.Shuffle(len(pids), func(i, k int) { pids[i], pids[k] = pids[k], pids[i] })
		x := dedup.New()
		var list []mark
		for i, pid := range pids {
			list = append(list, mark{pid, 0, 0, 1, i}, mark{pid, 1, 0, 2, 100 + i})
		}
		for _, m := range list {
			x.Note(batch(m))
		}
		for range 3 {
			wantNotes(t, "shuffled", x, list...)
		}
		wantLoaded(t, list...)
	}
}

func TestKeepOfManyProducers(t *testing.T) {
	var list []mark
	for i := range 3000 {
		list = append(list, mark{1 + (i*7)%3000, 0, 0, 1, i})
	}
	wantNotes(t, "many", noted(t, list...), list...)
	wantLoaded(t, list...)
}

func TestKeepBehindACut(t *testing.T) {
	list := []mark{{7, 0, 0, 1, 10}, {9, 0, 0, 1, 11}, {8, 0, 0, 1, 12}, {7, 0, 1, 1, 13}}
	x := noted(t, list...)
	x.Cut(12)
	wantNotes(t, "8 has no notes", x, list[:2]...)
	wantLoad(t, x.Keep(), api.OK)
	x.Cut(11)
	wantNotes(t, "9 has no notes", x, list[0])
	x.Note(batch(mark{8, 5, 0, 1, 20}))
	wantNotes(t, "8 has one again", x, list[0], mark{8, 5, 0, 1, 20})
}

func TestKeepChangesNothing(t *testing.T) {
	list := append(row(7, 3, 8, 100), row(2, 1, 3, 105)...)
	x := noted(t, list...)
	kept := x.Keep()
	x.Note(batch(mark{7, 4, 0, 1, 500}))
	if x.Cut(500); x.Keep() != kept {
		t.Errorf("Keep: got %q, want %q", x.Keep(), kept)
	}
}

// D8.4: Load

func TestLoadOfAFewBytes(t *testing.T) {
	for _, s := range []string{"", "\x00", "ab", "abc", "\x00\x00\x00", "\x52\x7d\x53"} {
		wantLoad(t, s, api.ErrShort)
	}
	wantLoad(t, "abcd", api.ErrSum)
	wantLoad(t, "\x00\x00\x00\x01", api.ErrSum)
	// Of nothing the Crc is 0; but that is no count.
	wantLoad(t, "\x00\x00\x00\x00", api.ErrForm)
	wantNotes(t, "no producers", wantLoad(t, "\x52\x7d\x53\x51\x00", api.OK))
}

func TestLoadWithAnotherCrc(t *testing.T) {
	s := written(mark{7, 3, 5, 2, 100}, mark{9, 0, 0, 1, 7})
	wantLoad(t, s, api.OK)
	for i := range len(s) {
		for bit := range 8 {
			b := []byte(s)
			b[i] ^= 1 << bit
			wantLoad(t, string(b), api.ErrSum)
		}
		if i < 4 {
			wantLoad(t, s[:i], api.ErrShort)
		} else {
			wantLoad(t, s[:i], api.ErrSum)
		}
	}
	wantLoad(t, s+"x", api.ErrSum)
	// The sum's error ahead of the form's.
	wantLoad(t, "\x00\x00\x00\x00"+ints(1), api.ErrSum)
	// The lowest byte first is another one.
	b := []byte(s)
	slices.Reverse(b[:4])
	wantLoad(t, string(b), api.ErrSum)
}

func TestLoadOfIds(t *testing.T) {
	for _, pid := range []int{1, 2, most - 1, most} {
		wantLoaded(t, mark{pid, 3, 5, 2, 100})
	}
	wantLoaded(t, mark{1, 0, 0, 1, 0}, mark{most, 0, 0, 1, 0})
	for _, pid := range append(beyond(), 0) {
		wantNoForm(t, mark{pid, 3, 5, 2, 100})
		wantNoForm(t, mark{pid, 0, 0, 1, 100})
	}
}

func TestLoadOfIdsThatDoNotRise(t *testing.T) {
	one := []int{1, 3, 5, 2, 100} // one note
	two := func(a, b int) []int {
		return slices.Concat([]int{2, a}, one, []int{b}, one)
	}
	wantLoad(t, sealed(ints(two(6, 7)...)), api.OK)
	for _, ids := range [][2]int{{7, 7}, {7, 6}, {7, 1}, {2, 1}, {1, 1}, {most, 1}, {most, most}, {7, 0}, {7, -7}} {
		wantNoFormOf(t, two(ids[0], ids[1])...)
		// Later notes of the same producer do not make it right either.
		wantNoFormOf(t, slices.Concat([]int{2, ids[0]}, one, []int{ids[1], 1, 4, 0, 1, 900})...)
	}
	wantNoFormOf(t, slices.Concat([]int{3, 6}, one, []int{8}, one, []int{7}, one)...)
	wantNoFormOf(t, slices.Concat([]int{3, 6}, one, []int{8}, one, []int{8}, one)...)
}

func TestLoadOfAProducerWithoutNotes(t *testing.T) {
	wantNoFormOf(t, 1, 7, 0)
	wantNoFormOf(t, 2, 7, 1, 3, 5, 2, 100, 8, 0)
	wantNoFormOf(t, 2, 6, 0, 7, 1, 3, 5, 2, 100)
	wantNoFormOf(t, 1, 7)
	wantNoFormOf(t, 1)
}

func TestLoadOfOffsets(t *testing.T) {
	for _, n := range []int{1, 2, 63, 64} {
		for _, at := range []int{0, 1, most - n, most - n + 1} {
			wantLoaded(t, mark{7, 3, 5, n, at})
			wantLoaded(t, mark{7, 3, 5, n, at}, mark{8, 0, 0, n, at})
		}
		for _, at := range append(beyond(), most-n+2) {
			wantNoForm(t, mark{7, 3, 5, n, at})
		}
	}
	wantLoaded(t, mark{7, 3, 0, 5, 10}, mark{7, 3, 5, 1, 11}, mark{7, 3, 6, 1, 12})
	for _, at := range []int{20, 19, 0} {
		wantNoForm(t, mark{7, 3, 0, 1, 20}, mark{7, 3, 1, 1, at})
		wantNoForm(t, mark{7, 3, 0, 1, 20}, mark{7, 4, 0, 1, at})
		wantNoForm(t, mark{7, 3, 0, 1, 10}, mark{7, 3, 1, 1, 20}, mark{7, 3, 2, 1, at})
		wantNoForm(t, mark{7, 3, 0, 1, 20}, mark{7, 3, 1, 1, at}, mark{7, 3, 2, 1, 30})
	}
}

func TestLoadOfEpochs(t *testing.T) {
	for _, epoch := range []int{0, 1, most - 1, most} {
		wantLoaded(t, mark{7, epoch, 5, 2, 100})
		wantLoaded(t, mark{7, epoch, 5, 2, 100}, mark{7, epoch, 7, 2, 102})
		wantLoaded(t, mark{7, 0, 5, 2, 100}, mark{7, epoch, 7, 2, 102}, mark{7, most, 9, 2, 104})
	}
	for _, epoch := range beyond() {
		wantNoForm(t, mark{7, epoch, 5, 2, 100})
		wantNoForm(t, mark{7, 3, 0, 2, 98}, mark{7, epoch, 5, 2, 100})
	}
	for _, epoch := range []int{0, 1, 2} {
		wantNoForm(t, mark{7, 3, 0, 1, 10}, mark{7, epoch, 1, 1, 20})
		wantNoForm(t, mark{7, 3, 0, 1, 10}, mark{7, epoch, 1, 1, 20}, mark{7, 4, 0, 1, 30})
		// Another producer's epochs are its own.
		wantLoaded(t, mark{7, 3, 0, 1, 10}, mark{8, epoch, 1, 1, 20})
	}
}

func TestLoadOfSequences(t *testing.T) {
	for _, n := range []int{1, 2, 63, 64} {
		for _, seq := range []int{0, 1, mostSeq - n, mostSeq - n + 1} {
			wantLoaded(t, mark{7, 3, seq, n, 100})
		}
		for _, seq := range append(beyond(), mostSeq-n+2, mostSeq+1, most) {
			wantNoForm(t, mark{7, 3, seq, n, 100})
			wantNoForm(t, mark{7, 2, 0, n, 10}, mark{7, 3, seq, n, 100})
		}
		first := mark{7, 3, 10, n, 100}
		for _, seq := range []int{10 + n, 11 + n, mostSeq} {
			wantLoaded(t, first, mark{7, 3, seq, 1, 200})
		}
		for _, seq := range []int{9 + n, 10, 9, 0} {
			wantNoForm(t, first, mark{7, 3, seq, 1, 200})
			wantNoForm(t, first, mark{7, 3, seq, 1, 200}, mark{7, 3, 1000, 1, 300})
			// Of a higher epoch, and of another producer, it may be any.
			wantLoaded(t, first, mark{7, 4, seq, 1, 200})
			wantLoaded(t, first, mark{7, most, seq, 1, 200})
			wantLoaded(t, first, mark{8, 3, seq, 1, 200})
		}
	}
	wantNoForm(t, mark{7, 3, mostSeq, 1, 100}, mark{7, 3, mostSeq + 1, 1, 200})
}

func TestLoadOfNumbersOfRecords(t *testing.T) {
	for _, n := range []int{1, 2, 63, 64} {
		wantLoaded(t, mark{7, 3, 5, n, 100})
	}
	for _, n := range append(beyond(), 0, 65, 66, most) {
		wantNoForm(t, mark{7, 3, 5, n, 100})
		wantNoForm(t, mark{7, 3, 0, n, 0})
		wantNoForm(t, mark{7, 3, 5, n, 100}, mark{7, 4, 0, 1, 200})
		wantNoForm(t, mark{7, 2, 0, 1, 10}, mark{7, 3, 5, n, 100})
	}
}

func TestLoadOfIntsInOtherBytes(t *testing.T) {
	right := []string{"\x02", "\x0e", "\x02", "\x06", "\x0a", "\x04", "\xc8\x01"}
	if x := wantLoad(t, sealed(strings.Join(right, "")), api.OK); x != nil {
		wantNotes(t, "in right bytes", x, mark{7, 3, 5, 2, 100})
	}
	for i, b := range right {
		last := len(b) - 1
		for _, other := range []string{
			b[:last] + string([]byte{b[last] | 128, 0}),                                           // with a byte too many
			b[:last] + string([]byte{b[last] | 128, 128, 0}),                                      // with two
			b[:last] + string([]byte{b[last] | 128}),                                              // that goes on
			"\x80\x80\x80\x80\x80\x80\x80\x80\x80\x02",                                            // beyond 64 bits
			b[:last] + string([]byte{b[last] | 128}) + "\x80\x80\x80\x80\x80\x80\x80\x80\x80\x00", // too long
			"",
		} {
			list := slices.Clone(right)
			list[i] = other
			wantLoad(t, sealed(strings.Join(list, "")), api.ErrForm)
		}
		// What ends too early, ahead of this int or amid it.
		wantLoad(t, sealed(strings.Join(right[:i], "")), api.ErrForm)
		wantLoad(t, sealed(strings.Join(right[:i], "")+"\x80"), api.ErrForm)
	}
	wantLoad(t, sealed("\x80\x00"), api.ErrForm)
	// Fixed numbers, not by sevens.
	var fixed []byte
	for _, n := range []uint32{1, 7, 1, 3, 5, 2, 100} {
		fixed = binary.BigEndian.AppendUint32(fixed, n)
	}
	wantLoad(t, sealed(string(fixed)), api.ErrForm)
}

func TestLoadOfAnotherCount(t *testing.T) {
	producers := []int{7, 2, 3, 5, 2, 100, 3, 7, 2, 102, 8, 1, 0, 0, 1, 104}
	wantLoad(t, sealed(ints(append([]int{2}, producers...)...)), api.OK)
	for _, n := range append(beyond(), 0, 1, 3, 4, 16, 17, most, 1<<31, 1<<62) {
		wantNoFormOf(t, append([]int{n}, producers...)...)
		if n != 0 {
			wantNoFormOf(t, n)
		}
	}
	for _, n := range append(beyond(), 0, 1, 3, 4, 14, most, 1<<31, 1<<62) {
		numbers := slices.Clone(producers)
		numbers[1] = n
		wantNoFormOf(t, append([]int{2}, numbers...)...)
		wantNoFormOf(t, 1, 7, n)
	}
	// Half a note more, or less.
	wantNoFormOf(t, append([]int{2}, producers[:len(producers)-1]...)...)
	wantNoFormOf(t, append([]int{2}, producers[:len(producers)-2]...)...)
	wantNoFormOf(t, slices.Concat([]int{2}, producers, []int{1, 1})...)
}

// A count that many bytes could have is found out as well, and soon.
func TestLoadOfACountOfManyBytes(t *testing.T) {
	for _, size := range []int{1000, 1000000} {
		wantLoad(t, sealed(ints(size)+strings.Repeat("\x80", size)), api.ErrForm)
		wantLoad(t, sealed(ints(size)+strings.Repeat("\x00", size)), api.ErrForm)
		wantLoad(t, sealed(ints(size)+strings.Repeat("\x02", size)), api.ErrForm)
		wantLoad(t, sealed(ints(1, 7, size)+strings.Repeat("\x80", size)), api.ErrForm)
		wantLoad(t, sealed(ints(1, 7, size)+strings.Repeat("\x02", size)), api.ErrForm)
	}
}

func TestLoadWithBytesBehind(t *testing.T) {
	for _, list := range [][]mark{nil, {{7, 3, 5, 2, 100}}, append(row(7, 1, 9, 100), row(8, 2, 4, 0)...)} {
		rest := written(list...)[4:]
		wantLoad(t, sealed(rest), api.OK)
		for _, more := range []string{"\x00", "x", "\x80", ints(9, 1, 0, 0, 1, 900), ints(3, 100, 1, 900), written(list...), rest} {
			wantLoad(t, sealed(rest+more), api.ErrForm)
		}
	}
}

// What Load made goes on as the table that was kept would, and neither changes the other.
func TestLoadMakesATableOfItsOwn(t *testing.T) {
	list := slices.Concat(row(7, 1, 8, 100), row(8, 0, 3, 105), row(7, 2, 3, 200))
	x := noted(t, list...)
	kept := x.Keep()
	y, z := wantLoad(t, kept, api.OK), wantLoad(t, kept, api.OK)
	for _, one := range []*dedup.Table{x, y} {
		one.Note(batch(mark{9, 0, 0, 1, 300}))
		one.Cut(210)
		one.Note(batch(mark{7, 2, 2, 1, 220}))
		one.Delete(180)
		left := slices.Concat(list[3:11], []mark{{7, 2, 0, 2, 200}, {7, 2, 2, 1, 220}})
		wantNotes(t, "changed", one, left...)
		wantNo(t, one, 7, 1, 14, 2, api.ErrFenced)
		wantOld(t, one, mark{7, 2, 0, 2, 200})
	}
	wantNotes(t, "the other", z, list...)
}

// plain reads bytes as the chapter says.
func plain(s string) ([]mark, api.Errno) {
	if len(s) < 4 {
		return nil, api.ErrShort
	}
	rest := []byte(s[4:])
	if sealed(string(rest)) != s {
		return nil, api.ErrSum
	}
	var numbers []int
	for len(rest) > 0 {
		n, size := binary.Varint(rest)
		if size <= 0 || ints(int(n)) != string(rest[:size]) {
			return nil, api.ErrForm
		}
		numbers = append(numbers, int(n))
		rest = rest[size:]
	}
	// All that it says, as far as it says anything; then held against what would be written of it.
	var list []mark
	for i := 1; i+1 < len(numbers); {
		pid, n := numbers[i], numbers[i+1]
		i += 2
		for ; n > 0 && i+3 < len(numbers); n-- {
			list = append(list, mark{pid, numbers[i], numbers[i+1], numbers[i+2], numbers[i+3]})
			i += 4
		}
	}
	if written(list...) != s || !mayBe(list) {
		return nil, api.ErrForm
	}
	return list, api.OK
}

// mayBe tells whether notes are a table's.
func mayBe(list []mark) bool {
	last := map[int]mark{}
	for _, m := range list {
		if m.pid < 1 || m.pid > most || m.epoch < 0 || m.epoch > most || m.n < 1 || m.n > 64 {
			return false
		}
		if m.seq < 0 || m.seq > mostSeq-(m.n-1) || m.at < 0 || m.at > most-(m.n-1) {
			return false
		}
		l, ok := last[m.pid]
		if ok && (m.at <= l.at || m.epoch < l.epoch || m.epoch == l.epoch && m.seq < l.seq+l.n) {
			return false
		}
		last[m.pid] = m
	}
	return true
}

// anyBytes is some for Load: any at all, and nearly right ones.
func anyBytes(r *rand.Rand) string {
	b := make([]byte, r.Intn(20))
	r.Read(b)
	switch r.Intn(5) {
	case 0:
		return string(b)
	case 1:
		return sealed(string(b))
	case 2: // small numbers, with counts that may be theirs
		for i := range b {
			b[i] = byte(2 * r.Intn(4))
		}
		return sealed(string(b))
	}
	var list []mark
	m := mark{pid: 1 + r.Intn(3), epoch: r.Intn(2), n: 1, at: r.Intn(70)}
	for range r.Intn(6) {
		list = append(list, m)
		m = mark{m.pid, m.epoch, m.seq + m.n, 1 + r.Intn(2), m.at + 1 + r.Intn(3)}
		switch r.Intn(6) {
		case 0:
			m.pid += r.Intn(3)
		case 1:
			m.epoch += r.Intn(2)
			m.seq = r.Intn(3)
		}
	}
	rest := []byte(written(list...)[4:])
	if i := r.Intn(len(rest)); r.Intn(3) > 0 {
		rest[i] = byte(int(rest[i]) + 2*r.Intn(5) - 4)
	}
	return sealed(string(rest))
}

func TestLoadOfAnyBytes(t *testing.T) {
	r := rand.New(rand.NewSource(7))
	met := map[api.Errno]int{}
	for range 50000 {
		s := anyBytes(r)
		list, want := plain(s)
		met[want]++
		if x := wantLoad(t, s, want); x != nil {
			wantNotes(t, "Load", x, list...)
			if x.Keep() != s {
				t.Fatalf("Keep of Load of %q: %q", s, x.Keep())
			}
		}
	}
	for _, e := range []api.Errno{api.OK, api.ErrShort, api.ErrSum, api.ErrForm} {
		if met[e] < 500 {
			t.Errorf("error %d was met %d times", int(e), met[e])
		}
	}
}

func FuzzLoad(f *testing.F) {
	f.Add("")
	f.Add(written()[4:])
	f.Add(written(row(7, 1, 3, 0)...)[4:])
	f.Add(written(append(row(7, 1, 3, 0), row(8, 2, 2, 5)...)...)[4:])
	f.Fuzz(func(t *testing.T, rest string) {
		s := sealed(rest)
		list, want := plain(s)
		if x := wantLoad(t, s, want); x != nil {
			wantNotes(t, "Load", x, list...)
		}
	})
}
