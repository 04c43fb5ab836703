package segment_test

import (
	"math"
	"reflect"
	"strconv"
	"strings"
	"testing"

	"logboom/api"
	"logboom/disk"
	"logboom/segment"
	"logboom/wire"
)

func made(t *testing.T, size int) *disk.Disk {
	t.Helper()
	d, e := disk.New(size)
	if e != api.OK {
		t.Fatalf("New(%d): %v", size, e)
	}
	return d
}

// must ends the test at the first call that is refused.
func must(t *testing.T, es ...api.Errno) {
	t.Helper()
	for i, e := range es {
		if e != api.OK {
			t.Fatalf("call %d: %v", i, e)
		}
	}
}

// batch has so many records, from a base on.
func batch(base, records int) api.Batch {
	b := api.Batch{Base: base, Epoch: 3, Pid: 7, PidEpoch: 2, Seq: 40}
	for i := range records {
		b.Records = append(b.Records, api.Record{Key: "k" + strconv.Itoa(base), Value: strconv.Itoa(i), Time: 9})
	}
	return b
}

// sized is a batch of one record that has just so many bytes (at least 30).
func sized(t *testing.T, base, bytes int) api.Batch {
	t.Helper()
	b := api.Batch{Base: base, Records: []api.Record{{}}}
	for len(written(t, b)) < bytes {
		r := &b.Records[0]
		if len(r.Value) < 900 {
			r.Value += "v"
		} else {
			r.Key += "k"
		}
	}
	if n := len(written(t, b)); n != bytes {
		t.Fatalf("no batch has %d bytes: %d", bytes, n)
	}
	return b
}

// written is a batch's bytes.
func written(t *testing.T, list ...api.Batch) string {
	t.Helper()
	all := ""
	for _, b := range list {
		s, e := wire.Batch(b)
		if e != api.OK {
			t.Fatalf("Batch: %v", e)
		}
		all += s
	}
	return all
}

// opened asks for how many bytes were cut off, too.
func opened(t *testing.T, d *disk.Disk, name string, base, torn int) *segment.Segment {
	t.Helper()
	s, n, e := segment.Open(d, name, base)
	if s == nil || e != api.OK {
		t.Fatalf("Open(%q, %d): %v", name, base, e)
	}
	if n != torn {
		t.Fatalf("Open(%q, %d): %d bytes were cut off, want %d", name, base, n, torn)
	}
	return s
}

func wantErr(t *testing.T, what string, got, want api.Errno) {
	t.Helper()
	if got != want {
		t.Fatalf("%s: got %d, want %d", what, int(got), int(want))
	}
}

func wantRefused(t *testing.T, d *disk.Disk, name string, base int, want api.Errno) {
	t.Helper()
	s, n, e := segment.Open(d, name, base)
	if s != nil || n != 0 || e != want {
		t.Fatalf("Open(%.80q, %d): got %v, %d, %d, want %d", name, base, s, n, int(e), int(want))
	}
}

// wantNumbers asks for a segment's numbers but for its base.
func wantNumbers(t *testing.T, s *segment.Segment, next, safe, bytes int) {
	t.Helper()
	if s.Next() != next || s.Safe() != safe || s.Bytes() != bytes {
		t.Fatalf("Next %d, Safe %d, Bytes %d, want %d, %d, %d", s.Next(), s.Safe(), s.Bytes(), next, safe, bytes)
	}
}

// wantAll asks for all of a segment's batches, by Read and in its file.
func wantAll(t *testing.T, d *disk.Disk, name string, s *segment.Segment, list ...api.Batch) {
	t.Helper()
	wantRead(t, s, s.Base(), math.MaxInt, list...)
	if b, e := d.Read(name); e != api.OK || b != written(t, list...) {
		t.Fatalf("the file: %d bytes, %v, want %d bytes", len(b), e, len(written(t, list...)))
	}
	next := s.Base()
	for _, b := range list {
		next += len(b.Records)
	}
	if s.Next() != next {
		t.Fatalf("Next: got %d, want %d", s.Next(), next)
	}
}

func wantRead(t *testing.T, s *segment.Segment, offset, most int, list ...api.Batch) {
	t.Helper()
	got := s.Read(offset, most)
	if len(got) != len(list) || len(list) > 0 && !reflect.DeepEqual(got, list) {
		t.Fatalf("Read(%d, %d): got %d batches, %.300v, want %d, %.300v", offset, most, len(got), got, len(list), list)
	}
}

// wantIndex asks for pairs of a Base and a place.
func wantIndex(t *testing.T, s *segment.Segment, pairs ...[2]int) {
	t.Helper()
	got := s.Index()
	if len(got) != len(pairs) {
		t.Fatalf("Index: got %v, want %v", got, pairs)
	}
	for i, p := range pairs {
		if got[i] != (api.Entry{Index: p[0], Term: p[1]}) {
			t.Fatalf("Index: got %v, want %v", got, pairs)
		}
	}
}

// picture is all that a disk tells of itself.
func picture(d *disk.Disk) string {
	var s strings.Builder
	s.WriteString("free " + strconv.Itoa(d.Free()))
	for _, name := range d.Names() {
		b, _ := d.Read(name)
		s.WriteString("\n" + name + " " + strconv.Itoa(d.Synced(name)) + " " + strconv.Quote(b))
	}
	return s.String()
}

// filled has a segment whose batches, all safe, stand from an offset on, one behind the other, with so many records each.
func filled(t *testing.T, d *disk.Disk, name string, base int, records ...int) (*segment.Segment, []api.Batch) {
	t.Helper()
	s := opened(t, d, name, base, 0)
	var list []api.Batch
	for _, n := range records {
		b := batch(s.Next(), n)
		must(t, s.Append(b))
		list = append(list, b)
	}
	must(t, s.Sync())
	return s, list
}

// S1, of a new file

func TestOpenTakesItsBases(t *testing.T) {
	d := made(t, 1000)
	for i, base := range []int{0, 1, 999999999, 1000000000} {
		s := opened(t, d, "s"+strconv.Itoa(i), base, 0)
		if s.Base() != base {
			t.Fatalf("Base: got %d, want %d", s.Base(), base)
		}
		wantNumbers(t, s, base, base, 0)
		wantRead(t, s, base, 100)
		wantIndex(t, s)
	}
	before := picture(d)
	for _, base := range []int{-1, 1000000001, math.MaxInt, math.MinInt} {
		wantRefused(t, d, "s0", base, api.ErrArg)
		wantRefused(t, d, "new", base, api.ErrArg)
		wantRefused(t, d, "No Name", base, api.ErrArg)
	}
	if picture(d) != before {
		t.Fatal("a refused Open changed the disk")
	}
}

func TestOpenMakesTheFile(t *testing.T) {
	d := made(t, 1000)
	opened(t, d, "s", 5, 0)
	if l := d.Names(); len(l) != 1 || l[0] != "s" || d.Size("s") != 0 {
		t.Fatalf("files: %q", l)
	}
	must(t, d.Append("empty", ""))
	wantNumbers(t, opened(t, d, "empty", 5, 0), 5, 5, 0)
}

func TestOpenTellsTheDisksErrors(t *testing.T) {
	d := made(t, 1000)
	for _, name := range []string{"", "A", "a b", "a/b", "\xff", strings.Repeat("a", 65), strings.Repeat("a", 100000)} {
		wantRefused(t, d, name, 0, api.ErrArg)
	}
	opened(t, d, strings.Repeat("a", 64), 0, 0)
	for i := range api.MaxFiles - 1 {
		must(t, d.Append(strconv.Itoa(i), ""))
	}
	before := picture(d)
	wantRefused(t, d, "more", 0, api.ErrMany)
	wantRefused(t, d, "More", 0, api.ErrArg)
	wantRefused(t, d, "more", -1, api.ErrArg)
	if picture(d) != before {
		t.Fatal("a refused Open changed the disk")
	}
	opened(t, d, "7", 0, 0)
}

func TestOpenOnAFullDisk(t *testing.T) {
	d := made(t, 10)
	must(t, d.Replace("fill", "0123456789"))
	s := opened(t, d, "s", 5, 0)
	wantErr(t, "Append", s.Append(batch(5, 1)), api.ErrFull)
	wantNumbers(t, s, 5, 5, 0)
	// What has no room to grow may still be cut.
	wantNumbers(t, opened(t, d, "fill", 5, 10), 5, 5, 0)
	if d.Free() != 10 {
		t.Fatalf("Free: %d", d.Free())
	}
}

// S1, of a file that has bytes

// wantOpen opens a file of these bytes, none of them safe, and asks for the batches that it begins with.
func wantOpen(t *testing.T, file string, base int, list ...api.Batch) *segment.Segment {
	t.Helper()
	d := made(t, api.MaxDisk)
	must(t, d.Append("s", file))
	torn := len(file) - len(written(t, list...))
	s := opened(t, d, "s", base, torn)
	wantAll(t, d, "s", s, list...)
	wantNumbers(t, s, s.Next(), s.Next(), len(file)-torn)
	if d.Synced("s") != d.Size("s") {
		t.Fatalf("%d of %d bytes are safe", d.Synced("s"), d.Size("s"))
	}
	// A second time there is nothing left to be cut off.
	wantAll(t, d, "s", opened(t, d, "s", base, 0), list...)
	return s
}

func TestOpenReadsWhatIsThere(t *testing.T) {
	one, two, three := batch(5, 1), batch(6, 64), batch(70, 2)
	all := written(t, one, two, three)
	wantOpen(t, all, 5, one, two, three)
	wantOpen(t, written(t, one), 5, one)
	wantOpen(t, written(t, batch(0, 1)), 0, batch(0, 1))
}

func TestOpenOfAnyBytes(t *testing.T) {
	for _, file := range []string{"", "x", "\x00", strings.Repeat("\x00", 8), strings.Repeat("\x00", 1000), strings.Repeat("\xff", 5000), "0123456789abcdef", written(t, batch(5, 1))[1:]} {
		wantOpen(t, file, 5)
	}
}

func TestOpenCutsWhatIsTorn(t *testing.T) {
	one, two := batch(5, 2), batch(7, 3)
	all := written(t, one, two)
	for n := len(written(t, one)); n < len(all); n++ {
		wantOpen(t, all[:n], 5, one)
	}
	for n := range len(written(t, one)) {
		wantOpen(t, all[:n], 5)
	}
}

func TestOpenStopsAtAnotherBase(t *testing.T) {
	one, three := batch(5, 2), batch(8, 1)
	for _, base := range []int{0, 4, 5, 6, 8, 9, 1000} {
		wantOpen(t, written(t, one, batch(base, 1), three), 5, one)
	}
	for _, base := range []int{0, 4, 6, 7, 1000000000} {
		wantOpen(t, written(t, one), base)
	}
	// What goes on rightly behind the wrong one is gone as well.
	wantOpen(t, written(t, one, batch(6, 1), batch(7, 1), three), 5, one)
}

func TestOpenStopsAtAnotherChecksum(t *testing.T) {
	one, two, three := batch(5, 1), batch(6, 1), batch(7, 1)
	all := written(t, one, two, three)
	from, to := len(written(t, one)), len(written(t, one, two))
	for i := from; i < to; i++ {
		file := []byte(all)
		file[i] ^= 16
		wantOpen(t, string(file), 5, one)
	}
}

func TestOpenStopsAtWhatIsNotRight(t *testing.T) {
	one := batch(5, 1)
	body := "\x0c\x00\x00\x00\x00\x00" // a batch of no record
	none := "\x00\x00\x00\x06" + four(wire.Crc(body)) + body
	wantOpen(t, written(t, one)+none+written(t, batch(6, 1)), 5, one)
	long := "\x00\x00\x0f\xf9" + strings.Repeat("\x00", 5000)
	wantOpen(t, written(t, one)+long, 5, one)
}

func four(n int) string {
	return string([]byte{byte(n >> 24), byte(n >> 16), byte(n >> 8), byte(n)})
}

func TestOpenStopsAboveTheLastOffset(t *testing.T) {
	last := batch(999999998, 2)
	wantOpen(t, written(t, last), 999999998, last)
	wantOpen(t, written(t, last, batch(1000000000, 1)), 999999998, last)
	wantOpen(t, written(t, batch(999999998, 3)), 999999998)
	wantOpen(t, written(t, batch(1000000000, 1)), 1000000000)
}

func TestOpenTakesNoMoreThanItMay(t *testing.T) {
	var list []api.Batch
	for i := range api.MaxLog + 2 {
		list = append(list, api.Batch{Base: i, Records: make([]api.Record, 1)})
	}
	s := wantOpen(t, written(t, list...), 0, list[:4096]...)
	wantErr(t, "Append", s.Append(batch(4096, 1)), api.ErrMany)
	s = wantOpen(t, written(t, list[:4096]...), 0, list[:4096]...)
	wantErr(t, "Append", s.Append(batch(4096, 1)), api.ErrMany)
	s = wantOpen(t, written(t, list[:4095]...), 0, list[:4095]...)
	wantErr(t, "Append", s.Append(batch(4095, 1)), api.OK)
	wantErr(t, "Append", s.Append(batch(4096, 1)), api.ErrMany)
}

func TestOpenLeavesOtherFilesAlone(t *testing.T) {
	d := made(t, 1000)
	must(t, d.Replace("r", "safe"), d.Append("r", "not"), d.Append("t", "neither"))
	must(t, d.Append("s", "torn"))
	opened(t, d, "s", 0, 4)
	if d.Synced("r") != 4 || d.Size("r") != 7 || d.Synced("t") != 0 || d.Size("t") != 7 {
		t.Fatal(picture(d))
	}
}

// S2

func TestAppendAndSync(t *testing.T) {
	d := made(t, 10000)
	s := opened(t, d, "s", 5, 0)
	one, two, three := batch(5, 1), batch(6, 3), batch(9, 64)
	n := len(written(t, one))
	must(t, s.Append(one))
	wantNumbers(t, s, 6, 5, n)
	must(t, s.Append(two))
	wantNumbers(t, s, 9, 5, len(written(t, one, two)))
	must(t, s.Sync())
	wantNumbers(t, s, 9, 9, len(written(t, one, two)))
	must(t, s.Append(three))
	wantNumbers(t, s, 73, 9, len(written(t, one, two, three)))
	must(t, s.Sync(), s.Sync())
	wantNumbers(t, s, 73, 73, len(written(t, one, two, three)))
	wantAll(t, d, "s", s, one, two, three)
}

func TestAppendRefusesInItsOrder(t *testing.T) {
	d := made(t, 10000)
	s, list := filled(t, d, "s", 5, 1, 2)
	before := picture(d)
	long := batch(9, 1)
	long.Records[0].Value = strings.Repeat("v", 1001)
	negative := batch(9, 1)
	negative.Epoch = -1
	for _, c := range []struct {
		what string
		b    api.Batch
		want api.Errno
	}{
		{"no record, another Base", batch(9, 0), api.ErrArg},
		{"no record", batch(8, 0), api.ErrArg},
		{"65 records, another Base", batch(9, 65), api.ErrMany},
		{"a long value, another Base", long, api.ErrLong},
		{"an Epoch below 0, another Base", negative, api.ErrArg},
		{"above the last offset, another Base", batch(1000000000, 2), api.ErrOver},
		{"the last offset, another Base", batch(1000000000, 1), api.ErrOrder},
		{"one behind Next", batch(9, 1), api.ErrOrder},
		{"one ahead of Next", batch(7, 1), api.ErrOrder},
		{"the segment's base", batch(5, 1), api.ErrOrder},
		{"0", batch(0, 1), api.ErrOrder},
		{"-1", batch(-1, 1), api.ErrArg},
		{"the lowest int", batch(math.MinInt, 1), api.ErrArg},
		{"the greatest int", batch(math.MaxInt, 1), api.ErrOver},
	} {
		wantErr(t, c.what, s.Append(c.b), c.want)
		if picture(d) != before {
			t.Fatalf("%s: the disk is changed", c.what)
		}
	}
	wantAll(t, d, "s", s, list...)
	must(t, s.Append(batch(8, 1)))
}

func TestAppendAtTheLastOffset(t *testing.T) {
	d := made(t, 10000)
	s := opened(t, d, "s", 999999997, 0)
	wantErr(t, "one beyond", s.Append(batch(999999997, 4)), api.ErrOver)
	wantErr(t, "up to it", s.Append(batch(999999997, 3)), api.OK)
	wantErr(t, "at it", s.Append(batch(1000000000, 1)), api.ErrOver)
	wantErr(t, "at it, two", s.Append(batch(1000000000, 2)), api.ErrOver)
	wantErr(t, "again", s.Append(batch(999999997, 3)), api.ErrOrder)
	wantAll(t, d, "s", s, batch(999999997, 3))
	// Over is told ahead of Full: the disk is not asked.
	full := made(t, 1)
	s = opened(t, full, "s", 1000000000, 0)
	wantErr(t, "at it", s.Append(batch(1000000000, 1)), api.ErrOver)
	wantNumbers(t, s, 1000000000, 1000000000, 0)
}

func TestAppendOfTooMany(t *testing.T) {
	d := made(t, api.MaxDisk)
	s := opened(t, d, "s", 5, 0)
	for i := range 4096 {
		wantErr(t, strconv.Itoa(i), s.Append(batch(5+i, 1)), api.OK)
	}
	wantErr(t, "one more", s.Append(batch(4101, 1)), api.ErrMany)
	wantErr(t, "one more, another Base", s.Append(batch(4100, 1)), api.ErrOrder)
	wantErr(t, "one more, not right", s.Append(batch(4101, 0)), api.ErrArg)
	if l := s.Read(5, math.MaxInt); len(l) != 4096 || s.Next() != 4101 {
		t.Fatalf("%d batches, Next %d", len(l), s.Next())
	}
	must(t, s.Cut(4100))
	wantErr(t, "one is gone", s.Append(batch(4100, 1)), api.OK)
	wantErr(t, "one more", s.Append(batch(4101, 1)), api.ErrMany)
	must(t, s.Cut(2000))
	for i := range 4096 - 1995 {
		wantErr(t, strconv.Itoa(i), s.Append(batch(2000+i, 1)), api.OK)
	}
	wantErr(t, "one more", s.Append(batch(4101, 1)), api.ErrMany)
	must(t, d.Replace("fill", strings.Repeat("x", d.Free())))
	wantErr(t, "Many is told ahead of Full", s.Append(batch(4101, 1)), api.ErrMany)
}

func TestOverIsToldAheadOfMany(t *testing.T) {
	d := made(t, api.MaxDisk)
	s := opened(t, d, "s", api.MaxOffset-4096, 0)
	for i := range 4096 {
		must(t, s.Append(batch(api.MaxOffset-4096+i, 1)))
	}
	wantErr(t, "one more", s.Append(batch(api.MaxOffset, 1)), api.ErrOver)
}

func TestAppendToADiskWithSoMuchRoom(t *testing.T) {
	one, two := batch(5, 1), batch(6, 2)
	had, more := len(written(t, one)), len(written(t, two))
	for room := range more + 2 {
		d := made(t, had+room+3)
		s, _ := filled(t, d, "s", 5, 1)
		must(t, d.Append("other", "xyz"))
		before := picture(d)
		if room >= more {
			wantErr(t, "room", s.Append(two), api.OK)
			wantNumbers(t, s, 8, 6, had+more)
			wantAll(t, d, "s", s, one, two)
			continue
		}
		wantErr(t, "no room", s.Append(two), api.ErrFull)
		wantNumbers(t, s, 6, 6, had)
		wantAll(t, d, "s", s, one)
		if picture(d) != before {
			t.Fatalf("room for %d: got %s, want %s", room, picture(d), before)
		}
		// With room it goes on as if nothing had been.
		must(t, d.Remove("other"))
		if room+3 >= more {
			must(t, s.Append(two))
			wantAll(t, d, "s", s, one, two)
		}
	}
}

func TestAFullDiskTakesNothingThatWasNotSafe(t *testing.T) {
	one, two := batch(5, 1), batch(6, 1)
	d := made(t, len(written(t, one, two))+4)
	s := opened(t, d, "s", 5, 0)
	must(t, s.Append(one), s.Sync(), s.Append(two))
	wantErr(t, "Append", s.Append(batch(7, 1)), api.ErrFull)
	wantNumbers(t, s, 7, 6, len(written(t, one, two)))
	wantAll(t, d, "s", s, one, two)
	must(t, s.Sync())
	wantNumbers(t, s, 7, 7, len(written(t, one, two)))
}

func TestAppendKeepsNothingOfWhatItIsGiven(t *testing.T) {
	d := made(t, 10000)
	s := opened(t, d, "s", 5, 0)
	room := append(make([]api.Record, 0, 8), api.Record{Value: "a"}, api.Record{Value: "b"})
	b := api.Batch{Base: 5, Records: room}
	behind := room[:3]
	behind[2].Value = "behind"
	must(t, s.Append(b))
	if len(b.Records) != 2 || b.Records[0].Value != "a" || b.Records[1].Value != "b" || behind[2].Value != "behind" {
		t.Fatal("what was handed in is changed")
	}
	b.Records[0].Value = "changed"
	wantRead(t, s, 5, 100, api.Batch{Base: 5, Records: []api.Record{{Value: "a"}, {Value: "b"}}})
}

func TestSyncTellsTheDisksError(t *testing.T) {
	d := made(t, 10000)
	s, _ := filled(t, d, "s", 5, 1)
	must(t, s.Sync(), d.Remove("s"))
	wantErr(t, "Sync", s.Sync(), api.ErrNone)
}

// S3

func TestCut(t *testing.T) {
	sizes := []int{1, 3, 2, 1} // 5 6 9 11 12
	for _, c := range []struct{ offset, left int }{
		{5, 0}, {6, 1}, {7, 1}, {8, 1}, {9, 2}, {10, 2}, {11, 3}, {12, 4}, {13, 4}, {1000000000, 4}, {math.MaxInt, 4},
	} {
		d := made(t, 10000)
		s, list := filled(t, d, "s", 5, sizes...)
		wantErr(t, "Cut "+strconv.Itoa(c.offset), s.Cut(c.offset), api.OK)
		wantAll(t, d, "s", s, list[:c.left]...)
		wantNumbers(t, s, s.Next(), s.Next(), len(written(t, list[:c.left]...)))
		next := batch(s.Next(), 2)
		must(t, s.Append(next))
		list = append(list[:c.left:c.left], next)
		wantAll(t, d, "s", s, list...)
		if s.Safe() != next.Base {
			t.Fatalf("Safe: got %d, want %d", s.Safe(), next.Base)
		}
		must(t, s.Sync())
		wantAll(t, d, "s", opened(t, d, "s", 5, 0), list...)
	}
}

func TestCutBelowTheBase(t *testing.T) {
	d := made(t, 10000)
	s, list := filled(t, d, "s", 5, 1, 3)
	for _, offset := range []int{4, 0, -1, math.MinInt} {
		wantErr(t, "Cut", s.Cut(offset), api.ErrArg)
	}
	wantAll(t, d, "s", s, list...)
	empty := opened(t, d, "t", 5, 0)
	wantErr(t, "Cut", empty.Cut(4), api.ErrArg)
	wantErr(t, "Cut", empty.Cut(5), api.OK)
	wantErr(t, "Cut", empty.Cut(6), api.OK)
	wantNumbers(t, empty, 5, 5, 0)
}

func TestCutOfWhatIsNotSafe(t *testing.T) {
	d := made(t, 10000)
	s, list := filled(t, d, "s", 5, 1, 1)
	three, four := batch(7, 1), batch(8, 1)
	must(t, s.Append(three), s.Append(four))
	must(t, s.Cut(8))
	wantNumbers(t, s, 8, 7, len(written(t, list[0], list[1], three)))
	must(t, s.Cut(6))
	wantNumbers(t, s, 6, 6, len(written(t, list[0])))
	must(t, s.Append(batch(6, 5)))
	wantNumbers(t, s, 11, 6, len(written(t, list[0], batch(6, 5))))
}

func TestCutIsSafeAtOnce(t *testing.T) {
	d := made(t, 10000)
	s, list := filled(t, d, "s", 5, 1, 1, 1)
	must(t, s.Cut(6))
	d.Crash(nil)
	wantAll(t, d, "s", opened(t, d, "s", 5, 0), list[0])
}

// S4

func TestReadFindsTheBatchThatHasAnOffset(t *testing.T) {
	d := made(t, 10000)
	s, list := filled(t, d, "s", 5, 1, 3, 2) // 5 6 9 11
	at := map[int]int{5: 0, 6: 1, 7: 1, 8: 1, 9: 2, 10: 2}
	for offset, i := range at {
		wantRead(t, s, offset, math.MaxInt, list[i:]...)
		wantRead(t, s, offset, 10000, list[i:]...)
		for _, most := range []int{1, 0, -1, math.MinInt} {
			wantRead(t, s, offset, most, list[i])
		}
	}
	for _, offset := range []int{4, 3, 0, -1, math.MinInt, 11, 12, 1000000000, math.MaxInt} {
		wantRead(t, s, offset, 10000)
	}
}

func TestReadTakesAsMuchAsItMay(t *testing.T) {
	d := made(t, 10000)
	s, list := filled(t, d, "s", 5, 1, 3, 2, 1)
	for from, offset := range []int{5, 7, 10, 11} {
		for most := -2; most <= len(written(t, list...))+1; most++ {
			to := from + 1
			for to < len(list) && len(written(t, list[from:to+1]...)) <= most {
				to++
			}
			wantRead(t, s, offset, most, list[from:to]...)
		}
	}
}

func TestReadStopsAtTheFirstThatIsTooLong(t *testing.T) {
	d := made(t, 10000)
	s := opened(t, d, "s", 0, 0)
	short, long, last := sized(t, 0, 40), sized(t, 1, 500), sized(t, 2, 40)
	must(t, s.Append(short), s.Append(long), s.Append(last))
	wantRead(t, s, 0, 39, short)
	wantRead(t, s, 0, 80, short)
	wantRead(t, s, 0, 539, short)
	wantRead(t, s, 0, 540, short, long)
	wantRead(t, s, 0, 579, short, long)
	wantRead(t, s, 0, 580, short, long, last)
	wantRead(t, s, 1, 539, long)
	wantRead(t, s, 1, 540, long, last)
	wantRead(t, s, 1, 499, long)
}

func TestReadTellsWhatWasTaken(t *testing.T) {
	d := made(t, api.MaxDisk)
	s := opened(t, d, "s", 1000, 0)
	odd := api.Batch{Base: 1000, Epoch: 1000000000, Pid: 1000000000, PidEpoch: 1000000000, Seq: 999999,
		Records: []api.Record{{Key: "\x00\xff", Value: strings.Repeat("v", 1000), Time: 1000000000}, {}}}
	full := sized(t, 1002, 900)
	must(t, s.Append(odd), s.Append(full))
	wantRead(t, s, 1001, 10000, odd, full)
}

func TestAnswersAreNew(t *testing.T) {
	d := made(t, 10000)
	s, list := filled(t, d, "s", 5, 2, 2)
	one, two := s.Read(5, 10000), s.Read(5, 10000)
	one[0].Records[0].Value, one[0].Base = "changed", 77
	_ = append(one[:1], api.Batch{})
	_ = append(one[0].Records[:1], api.Record{})
	if !reflect.DeepEqual(two, list) {
		t.Fatal("two answers share their memory")
	}
	wantAll(t, d, "s", s, list...)
	index := s.Index()
	index[0].Term = 99
	_ = append(index[:0], api.Entry{Term: 98})
	wantIndex(t, s, [2]int{5, 0})
}

func TestSafeBehindACrash(t *testing.T) {
	list := []api.Batch{batch(5, 1), batch(6, 2), batch(8, 1)}
	for n := range len(written(t, list...)) + 1 {
		d := made(t, 10000)
		s := opened(t, d, "s", 5, 0)
		must(t, s.Append(list[0]), s.Append(list[1]), s.Append(list[2]))
		wantNumbers(t, s, 9, 5, len(written(t, list...)))
		d.Crash([]int{n})
		left := whole(t, n, list)
		safe := []int{5, 6, 8, 9}[len(left)]
		if s.Safe() != safe {
			t.Fatalf("%d bytes are left: Safe %d, want %d", n, s.Safe(), safe)
		}
		size := len(written(t, left...))
		s = opened(t, d, "s", 5, n-size)
		wantNumbers(t, s, safe, safe, size)
		wantAll(t, d, "s", s, left...)
	}
}

// whole is those batches that lie whole in the first n bytes.
func whole(t *testing.T, n int, list []api.Batch) []api.Batch {
	t.Helper()
	for len(list) > 0 && len(written(t, list...)) > n {
		list = list[:len(list)-1]
	}
	return list
}

func TestSafeOfAFileThatWasSyncedByTheDisk(t *testing.T) {
	d := made(t, 10000)
	s := opened(t, d, "s", 5, 0)
	must(t, s.Append(batch(5, 2)), d.Sync("s"), s.Append(batch(7, 1)))
	wantNumbers(t, s, 8, 7, d.Size("s"))
}

// A segment that Open did not make is one on a disk without room.

func TestASegmentThatOpenDidNotMake(t *testing.T) {
	s := &segment.Segment{}
	wantErr(t, "Append", s.Append(batch(0, 1)), api.ErrArg)
	wantErr(t, "Sync", s.Sync(), api.ErrNone)
	wantErr(t, "Cut", s.Cut(-1), api.ErrArg)
	wantErr(t, "Cut", s.Cut(0), api.ErrNone)
	wantNumbers(t, s, 0, 0, 0)
	wantRead(t, s, 0, 100)
	wantIndex(t, s)
}

// What others do to the file is not meant (S6); still no call may panic.

func TestAFileThatOthersChange(t *testing.T) {
	for _, change := range []func(d *disk.Disk){
		func(d *disk.Disk) { d.Remove("s") },
		func(d *disk.Disk) { d.Cut("s", 0) },
		func(d *disk.Disk) { d.Cut("s", 700) },
		func(d *disk.Disk) { d.Replace("s", strings.Repeat("x", 2000)) },
		func(d *disk.Disk) { d.Append("s", "more") },
	} {
		d := made(t, 3000)
		s := opened(t, d, "s", 5, 0)
		for i := range 10 {
			must(t, s.Append(sized(t, 5+i, 200)))
		}
		change(d)
		for offset := 4; offset < 17; offset++ {
			s.Read(offset, 300)
		}
		s.Safe()
		s.Index()
		s.Sync()
		s.Append(batch(15, 1))
		s.Cut(12)
		s.Cut(7)
		s.Safe()
		s.Append(batch(s.Next(), 1))
	}
}

// The chapter's examples.

func TestExamples(t *testing.T) {
	d := made(t, 10000)
	s := opened(t, d, "s", 5, 0)
	n := len(written(t, batch(5, 1)))
	if s.Next() != 5 || s.Append(batch(5, 1)) != api.OK || s.Append(batch(5, 1)) != api.ErrOrder || s.Next() != 6 || s.Safe() != 5 || s.Sync() != api.OK || s.Safe() != 6 {
		t.Fatal("the first")
	}
	must(t, s.Append(batch(6, 1)))
	d.Crash([]int{n - 1})
	s = opened(t, d, "s", 5, n-1)
	wantNumbers(t, s, 6, 6, n)
	must(t, s.Append(batch(6, 1)), s.Append(batch(7, 1)))
	wantRead(t, s, 5, 1, batch(5, 1))
	wantRead(t, s, 8, 100)
	wantRead(t, s, 4, 100)
}
