package plog_test

import (
	"math"
	"reflect"
	"slices"
	"strconv"
	"strings"
	"testing"

	"logboom/api"
	"logboom/disk"
	"logboom/plog"
	"logboom/wire"
)

func made(t *testing.T, size int) *disk.Disk {
	t.Helper()
	d, e := disk.New(size)
	if e != api.OK {
		t.Fatalf("New(%d): %v", size, e)
	}
	return d
}

// must ends the test at the first call that is refused.
func must(t *testing.T, es ...api.Errno) {
	t.Helper()
	for i, e := range es {
		if e != api.OK {
			t.Fatalf("call %d: %v", i, e)
		}
	}
}

// batch has so many records, from a base on.
func batch(base, records int) api.Batch {
	b := api.Batch{Base: base, Epoch: 3, Pid: 7, PidEpoch: 2, Seq: 40}
	for i := range records {
		b.Records = append(b.Records, api.Record{Key: "key" + strconv.Itoa(base), Value: strconv.Itoa(i), Time: 9})
	}
	return b
}

// sized is a batch of one record that has just so many bytes (at least 30).
func sized(t *testing.T, base, bytes int) api.Batch {
	t.Helper()
	b := api.Batch{Base: base, Records: []api.Record{{}}}
	for len(bytesOf(t, b)) < bytes {
		r := &b.Records[0]
		if len(r.Value) < 900 {
			r.Value += "v"
		} else {
			r.Key += "k"
		}
	}
	if n := len(bytesOf(t, b)); n != bytes {
		t.Fatalf("no batch has %d bytes: %d", bytes, n)
	}
	return b
}

// bytesOf is batches as they are written, one behind the other.
func bytesOf(t *testing.T, list ...api.Batch) string {
	t.Helper()
	all := ""
	for _, b := range list {
		s, e := wire.Batch(b)
		if e != api.OK {
			t.Fatalf("Batch: %v", e)
		}
		all += s
	}
	return all
}

func opened(t *testing.T, d *disk.Disk, prefix string, most int) *plog.Log {
	t.Helper()
	l, e := plog.Open(d, prefix, most)
	if l == nil || e != api.OK {
		t.Fatalf("Open(%q, %d): %v", prefix, most, e)
	}
	return l
}

// taken is the batches that a log takes now, of so many bytes each, with one record.
func taken(t *testing.T, l *plog.Log, sizes ...int) []api.Batch {
	t.Helper()
	var list []api.Batch
	for _, n := range sizes {
		b := sized(t, l.Next(), n)
		must(t, l.Take(b))
		list = append(list, b)
	}
	return list
}

// three has batches of one record and 100 bytes each, three a segment, all safe: 0 to 2, 3 to 5, 6 and 7.
func three(t *testing.T, d *disk.Disk) (*plog.Log, []api.Batch) {
	t.Helper()
	l := opened(t, d, "p", 300)
	list := taken(t, l, 100, 100, 100, 100, 100, 100, 100, 100)
	must(t, l.Sync())
	wantFiles(t, d, "p", 0, 3, 6)
	return l, list
}

func wantErr(t *testing.T, what string, got, want api.Errno) {
	t.Helper()
	if got != want {
		t.Fatalf("%s: got %d, want %d", what, int(got), int(want))
	}
}

// wantNumbers asks for START, NEXT, what is safe, HIGH.
func wantNumbers(t *testing.T, l *plog.Log, start, next, safe, high int) {
	t.Helper()
	if l.Start() != start || l.Next() != next || l.Safe() != safe || l.Saved() != high {
		t.Fatalf("Start %d, Next %d, Safe %d, Saved %d, want %d, %d, %d, %d", l.Start(), l.Next(), l.Safe(), l.Saved(), start, next, safe, high)
	}
}

func wantRead(t *testing.T, l *plog.Log, offset, most int, list ...api.Batch) {
	t.Helper()
	got, e := l.Read(offset, most)
	if e != api.OK || !same(got, list) {
		t.Fatalf("Read(%d, %d): got %d batches, %.300v, %d, want %d, %.300v", offset, most, len(got), got, int(e), len(list), list)
	}
}

func wantAll(t *testing.T, l *plog.Log, list ...api.Batch) {
	t.Helper()
	if got := l.All(); !same(got, list) {
		t.Fatalf("All: got %d batches, %.300v, want %d, %.300v", len(got), got, len(list), list)
	}
}

func same(got, want []api.Batch) bool {
	return len(got) == len(want) && (len(want) == 0 || reflect.DeepEqual(got, want))
}

// wantFiles asks for the files that begin with the prefix and a `-`: a segment's for each base, none else.
func wantFiles(t *testing.T, d *disk.Disk, prefix string, bases ...int) {
	t.Helper()
	var got, want []string
	for _, name := range d.Names() {
		if strings.HasPrefix(name, prefix+"-") {
			got = append(got, name)
		}
	}
	for _, base := range bases {
		want = append(want, file(prefix, base))
	}
	if !slices.Equal(got, want) {
		t.Fatalf("files %q, want %q", got, want)
	}
}

func file(prefix string, base int) string {
	digits := "0000000000" + strconv.Itoa(base)
	return prefix + "-" + digits[len(digits)-10:] + ".log"
}

func wantMeta(t *testing.T, d *disk.Disk, prefix, text string) {
	t.Helper()
	if got, e := d.Read(prefix + ".meta"); e != api.OK || got != text || d.Synced(prefix+".meta") != len(text) {
		t.Fatalf("the meta: got %q, %d, want %q", got, int(e), text)
	}
}

// picture is all that a disk tells of itself.
func picture(d *disk.Disk) string {
	var s strings.Builder
	s.WriteString("free " + strconv.Itoa(d.Free()))
	for _, name := range d.Names() {
		b, _ := d.Read(name)
		s.WriteString("\n" + name + " " + strconv.Itoa(d.Synced(name)) + " " + strconv.Quote(b))
	}
	return s.String()
}

// wantUnchanged asks that a call is refused and changes nothing, neither on the disk nor in the log.
func wantUnchanged(t *testing.T, d *disk.Disk, l *plog.Log, what string, want api.Errno, call func() api.Errno) {
	t.Helper()
	numbers := [4]int{l.Start(), l.Next(), l.Safe(), l.Saved()}
	all, before := l.All(), picture(d)
	wantErr(t, what, call(), want)
	if picture(d) != before {
		t.Fatalf("%s: the disk was\n%.500s\nis\n%.500s", what, before, picture(d))
	}
	wantNumbers(t, l, numbers[0], numbers[1], numbers[2], numbers[3])
	wantAll(t, l, all...)
}

// stuff fills the disk but for so many bytes, by a file of another.
func stuff(t *testing.T, d *disk.Disk, free int) {
	t.Helper()
	must(t, d.Append("stuff", strings.Repeat("x", d.Free()-free)), d.Sync("stuff"))
}

// crowd makes files until there are so many.
func crowd(t *testing.T, d *disk.Disk, files int) {
	t.Helper()
	for i := 0; len(d.Names()) < files; i++ {
		must(t, d.Append("crowd"+strconv.Itoa(i), ""))
	}
}

// L2, Append and Take

func TestAppendGivesTheNextOffset(t *testing.T) {
	d := made(t, 10000)
	l := opened(t, d, "p", 256)
	var list []api.Batch
	next := 0
	for i, base := range []int{0, 5, -7, math.MaxInt, math.MinInt} {
		b := batch(base, 1+i)
		got, e := l.Append(b)
		if got != next || e != api.OK {
			t.Fatalf("Append: got %d, %d, want %d", got, int(e), next)
		}
		b.Base = next
		list = append(list, b)
		next += 1 + i
	}
	wantNumbers(t, l, 0, next, l.Safe(), 0)
	wantAll(t, l, list...)
}

func TestAppendRefused(t *testing.T) {
	d := made(t, 10000)
	l := opened(t, d, "p", 256)
	taken(t, l, 100)
	for _, c := range []struct {
		b    api.Batch
		want api.Errno
	}{
		{batch(1, 0), api.ErrArg},
		{batch(1, 65), api.ErrMany},
		{api.Batch{Records: []api.Record{{Value: strings.Repeat("v", 1001)}}}, api.ErrLong},
		{api.Batch{Epoch: -1, Records: []api.Record{{}}}, api.ErrArg},
		{api.Batch{Seq: 1, Records: []api.Record{{}}}, api.ErrArg},
	} {
		wantUnchanged(t, d, l, "Append", c.want, func() api.Errno {
			n, e := l.Append(c.b)
			if n != 0 {
				t.Fatalf("a refused Append told %d", n)
			}
			return e
		})
	}
}

func TestTakeTakesJustTheNextOffset(t *testing.T) {
	d := made(t, 10000)
	l := opened(t, d, "p", 256)
	must(t, l.Begin(9))
	for _, base := range []int{0, 8, 10, -1, math.MaxInt, math.MinInt} {
		wantUnchanged(t, d, l, "Take", api.ErrOrder, func() api.Errno { return l.Take(batch(base, 1)) })
	}
	must(t, l.Take(batch(9, 3)))
	for _, base := range []int{9, 10, 11, 13} {
		wantUnchanged(t, d, l, "Take", api.ErrOrder, func() api.Errno { return l.Take(batch(base, 1)) })
	}
	must(t, l.Take(batch(12, 1)))
	wantAll(t, l, batch(9, 3), batch(12, 1))
}

func TestTakeTellsTheFirstOfItsErrors(t *testing.T) {
	d := made(t, 10000)
	l := opened(t, d, "p", 256)
	must(t, l.Begin(api.MaxOffset))
	wantUnchanged(t, d, l, "another Base, no records", api.ErrOrder, func() api.Errno { return l.Take(batch(5, 0)) })
	wantUnchanged(t, d, l, "no records", api.ErrArg, func() api.Errno { return l.Take(batch(api.MaxOffset, 0)) })
	wantUnchanged(t, d, l, "65 records", api.ErrMany, func() api.Errno { return l.Take(batch(api.MaxOffset, 65)) })
	wantUnchanged(t, d, l, "one", api.ErrOver, func() api.Errno { return l.Take(batch(api.MaxOffset, 1)) })
	stuff(t, d, 0)
	wantUnchanged(t, d, l, "one, full", api.ErrOver, func() api.Errno { return l.Take(batch(api.MaxOffset, 1)) })
}

func TestTakeEndsAtMaxOffset(t *testing.T) {
	d := made(t, 10000)
	l := opened(t, d, "p", 256)
	must(t, l.Begin(api.MaxOffset-3))
	wantUnchanged(t, d, l, "four", api.ErrOver, func() api.Errno { return l.Take(batch(api.MaxOffset-3, 4)) })
	must(t, l.Take(batch(api.MaxOffset-3, 3)))
	wantNumbers(t, l, api.MaxOffset-3, api.MaxOffset, api.MaxOffset-3, api.MaxOffset-3)
	if n, e := l.Append(batch(0, 1)); n != 0 || e != api.ErrOver {
		t.Fatalf("Append: got %d, %d", n, int(e))
	}
	wantRead(t, l, api.MaxOffset, 100)
	must(t, l.Sync(), l.Delete(api.MaxOffset))
	wantNumbers(t, l, api.MaxOffset, api.MaxOffset, api.MaxOffset, api.MaxOffset)
}

// A full segment with an offset that would go over must neither be synced nor followed by a new one.
func TestARefusedBatchBeginsNoSegment(t *testing.T) {
	d := made(t, 10000)
	l := opened(t, d, "p", 256)
	must(t, l.Begin(api.MaxOffset-1), l.Take(sized(t, api.MaxOffset-1, 300)))
	wantUnchanged(t, d, l, "over", api.ErrOver, func() api.Errno { return l.Take(batch(api.MaxOffset, 1)) })
	must(t, l.Begin(0), l.Take(sized(t, 0, 300)))
	wantUnchanged(t, d, l, "no records", api.ErrArg, func() api.Errno { return l.Take(batch(1, 0)) })
	wantUnchanged(t, d, l, "another Base", api.ErrOrder, func() api.Errno { return l.Take(batch(2, 1)) })
	wantFiles(t, d, "p", 0)
}

// L2, segments

func TestASegmentIsFullAtMostBytes(t *testing.T) {
	for _, c := range []struct {
		sizes []int
		bases []int
	}{
		{[]int{255, 40}, []int{0}},
		{[]int{256, 40}, []int{0, 1}},
		{[]int{257, 40}, []int{0, 1}},
		{[]int{100, 155, 40, 40}, []int{0, 3}},
		{[]int{100, 156, 40, 40}, []int{0, 2}},
		{[]int{1000}, []int{0}},
		{[]int{1000, 1000, 1000}, []int{0, 1, 2}},
	} {
		d := made(t, 10000)
		l := opened(t, d, "p", 256)
		list := taken(t, l, c.sizes...)
		wantFiles(t, d, "p", c.bases...)
		wantAll(t, l, list...)
	}
}

func TestASegmentIsFullAtMaxLogBatches(t *testing.T) {
	d := made(t, 1000000)
	l := opened(t, d, "p", 1000000)
	one := api.Batch{Records: []api.Record{{}}}
	for i := range api.MaxLog {
		if n, e := l.Append(one); n != i || e != api.OK {
			t.Fatalf("Append: got %d, %d, want %d", n, int(e), i)
		}
	}
	wantFiles(t, d, "p", 0)
	wantNumbers(t, l, 0, api.MaxLog, 0, 0)
	before := d.Clone()
	must(t, l.Take(batch(api.MaxLog, 1)))
	wantFiles(t, d, "p", 0, api.MaxLog)
	wantNumbers(t, l, 0, api.MaxLog+1, api.MaxLog, 0)
	wantRead(t, l, api.MaxLog-1, 10000, api.Batch{Base: api.MaxLog - 1, Records: one.Records}, batch(api.MaxLog, 1))
	// The same, of a log that found the batches on the disk.
	before.Sync(file("p", 0))
	l = opened(t, before, "p", 1000000)
	must(t, l.Take(batch(api.MaxLog, 1)))
	wantFiles(t, before, "p", 0, api.MaxLog)
	if n := len(l.All()); n != api.MaxLog+1 {
		t.Fatalf("All: %d batches", n)
	}
	stuff(t, before, 0)
	must(t, l.Cut(api.MaxLog))
	stuff(t, before, 0)
	wantErr(t, "Take", l.Take(batch(api.MaxLog, 1)), api.ErrFull)
	wantFiles(t, before, "p", 0, api.MaxLog)
	wantNumbers(t, l, 0, api.MaxLog, api.MaxLog, 0)
}

func TestSyncAndSafeAreTheLastSegments(t *testing.T) {
	d := made(t, 10000)
	l := opened(t, d, "p", 256)
	taken(t, l, 100)
	wantNumbers(t, l, 0, 1, 0, 0)
	must(t, l.Sync())
	wantNumbers(t, l, 0, 1, 1, 0)
	taken(t, l, 100, 100)
	wantNumbers(t, l, 0, 3, 1, 0)
	// A new segment: the one ahead is safe.
	taken(t, l, 100)
	wantNumbers(t, l, 0, 4, 3, 0)
	if n := d.Synced(file("p", 0)); n != 300 {
		t.Fatalf("%d bytes of the first segment are safe", n)
	}
	taken(t, l, 100)
	wantNumbers(t, l, 0, 5, 3, 0)
	must(t, l.Sync())
	wantNumbers(t, l, 0, 5, 5, 0)
}

// L2, full disks

func TestAFullDiskTakesNoBatch(t *testing.T) {
	d := made(t, 10000)
	l := opened(t, d, "p", 256)
	list := taken(t, l, 100)
	stuff(t, d, 99)
	wantUnchanged(t, d, l, "Take", api.ErrFull, func() api.Errno { return l.Take(sized(t, 1, 100)) })
	if n, e := l.Append(sized(t, 1, 100)); n != 0 || e != api.ErrFull {
		t.Fatalf("Append: got %d, %d", n, int(e))
	}
	list = append(list, taken(t, l, 99)...)
	wantAll(t, l, list...)
}

func TestASegmentThatWasBegunStays(t *testing.T) {
	d := made(t, 10000)
	l := opened(t, d, "p", 256)
	list := taken(t, l, 200, 100)
	stuff(t, d, 50)
	for range 3 {
		wantErr(t, "Take", l.Take(sized(t, 2, 51)), api.ErrFull)
		wantFiles(t, d, "p", 0, 2)
		wantNumbers(t, l, 0, 2, 2, 0)
		wantAll(t, l, list...)
		if n := d.Size(file("p", 2)); n != 0 {
			t.Fatalf("the new segment has %d bytes", n)
		}
	}
	list = append(list, taken(t, l, 50)...)
	wantFiles(t, d, "p", 0, 2)
	wantAll(t, l, list...)
	d.Crash(nil)
	l = opened(t, d, "p", 256)
	wantNumbers(t, l, 0, 2, 2, 0)
	wantFiles(t, d, "p", 0, 2)
	wantAll(t, l, list[:2]...)
}

func TestAnEmptySegmentIsLeftByACrash(t *testing.T) {
	d := made(t, 10000)
	l := opened(t, d, "p", 256)
	list := taken(t, l, 300)
	stuff(t, d, 0)
	wantErr(t, "Take", l.Take(sized(t, 1, 51)), api.ErrFull)
	d.Crash(nil)
	must(t, d.Remove("stuff"))
	l = opened(t, d, "p", 256)
	wantFiles(t, d, "p", 0, 1)
	list = append(list, taken(t, l, 300)...)
	wantFiles(t, d, "p", 0, 1)
	wantAll(t, l, list...)
}

func TestTooManyFilesForANewSegment(t *testing.T) {
	d := made(t, 10000)
	l := opened(t, d, "p", 256)
	list := taken(t, l, 200, 100)
	crowd(t, d, api.MaxFiles)
	wantErr(t, "Take", l.Take(sized(t, 2, 50)), api.ErrMany)
	// What the full segment has is synced ahead of the new one's error.
	wantNumbers(t, l, 0, 2, 2, 0)
	wantUnchanged(t, d, l, "Take", api.ErrMany, func() api.Errno { return l.Take(sized(t, 2, 50)) })
	wantFiles(t, d, "p", 0)
	must(t, d.Remove("crowd7"))
	list = append(list, taken(t, l, 50)...)
	wantFiles(t, d, "p", 0, 2)
	wantAll(t, l, list...)
}

// L3

func TestCutRanges(t *testing.T) {
	d := made(t, 10000)
	l, list := three(t, d)
	must(t, l.Delete(1))
	for _, offset := range []int{0, -1, 9, math.MaxInt, math.MinInt} {
		wantUnchanged(t, d, l, "Cut", api.ErrRange, func() api.Errno { return l.Cut(offset) })
	}
	wantUnchanged(t, d, l, "Cut of NEXT", api.OK, func() api.Errno { return l.Cut(8) })
	must(t, l.Cut(1))
	wantNumbers(t, l, 1, 1, 1, 1)
	wantAll(t, l)
	wantFiles(t, d, "p", 0)
	if got, _ := d.Read(file("p", 0)); got != bytesOf(t, list[0]) {
		t.Fatal("the batch ahead of START is gone")
	}
	must(t, l.Take(batch(1, 2)))
	wantAll(t, l, batch(1, 2))
}

func TestCutInSegments(t *testing.T) {
	for _, c := range []struct {
		offset int
		bases  []int
	}{
		{8, []int{0, 3, 6}},
		{7, []int{0, 3, 6}},
		{6, []int{0, 3}}, // a segment's base: it is removed
		{5, []int{0, 3}},
		{4, []int{0, 3}},
		{3, []int{0}},
		{2, []int{0}},
		{1, []int{0}},
		{0, []int{0}}, // but the first stays
	} {
		d := made(t, 10000)
		l, list := three(t, d)
		must(t, l.Cut(c.offset))
		wantFiles(t, d, "p", c.bases...)
		wantNumbers(t, l, 0, c.offset, c.offset, 0)
		wantAll(t, l, list[:c.offset]...)
		d.Crash(nil)
		l = opened(t, d, "p", 300)
		wantFiles(t, d, "p", c.bases...)
		wantNumbers(t, l, 0, c.offset, c.offset, 0)
		wantAll(t, l, list[:c.offset]...)
		more := taken(t, l, 100, 100, 100, 100)
		wantAll(t, l, append(list[:c.offset:c.offset], more...)...)
	}
}

func TestCutWithinABatch(t *testing.T) {
	d := made(t, 10000)
	l := opened(t, d, "p", 256)
	must(t, l.Take(batch(0, 4)), l.Take(batch(4, 30)), l.Take(batch(34, 5)), l.Take(batch(39, 3)))
	wantFiles(t, d, "p", 0, 34)
	must(t, l.Cut(41))
	wantAll(t, l, batch(0, 4), batch(4, 30), batch(34, 5))
	// Within the first batch of a segment: the segment stays, empty.
	must(t, l.Cut(38))
	wantFiles(t, d, "p", 0, 34)
	wantNumbers(t, l, 0, 34, 34, 0)
	must(t, l.Take(batch(34, 1)), l.Cut(33))
	wantFiles(t, d, "p", 0)
	wantAll(t, l, batch(0, 4))
	must(t, l.Cut(3))
	wantNumbers(t, l, 0, 0, 0, 0)
	wantAll(t, l)
}

func TestCutTakesAwayAnEmptyLastSegment(t *testing.T) {
	d := made(t, 10000)
	l := opened(t, d, "p", 256)
	list := taken(t, l, 300)
	stuff(t, d, 0)
	wantErr(t, "Take", l.Take(sized(t, 1, 100)), api.ErrFull)
	wantFiles(t, d, "p", 0, 1)
	must(t, l.Cut(1))
	wantFiles(t, d, "p", 0)
	wantNumbers(t, l, 0, 1, 1, 0)
	wantAll(t, l, list...)
}

func TestCutOfWhatIsNotSafe(t *testing.T) {
	d := made(t, 10000)
	l := opened(t, d, "p", 1000)
	list := taken(t, l, 100, 100)
	must(t, l.Sync())
	taken(t, l, 100, 100)
	must(t, l.Cut(3))
	wantNumbers(t, l, 0, 3, 2, 0)
	must(t, l.Cut(1))
	wantNumbers(t, l, 0, 1, 1, 0)
	wantAll(t, l, list[:1]...)
}

func TestHighBehindACut(t *testing.T) {
	d := made(t, 10000)
	l, _ := three(t, d)
	must(t, l.Save(5), l.Cut(6))
	wantNumbers(t, l, 0, 6, 6, 5)
	must(t, l.Cut(5))
	wantNumbers(t, l, 0, 5, 5, 5)
	must(t, l.Cut(4))
	wantNumbers(t, l, 0, 4, 4, 4)
	// Cut keeps nothing: the meta is as it was.
	wantMeta(t, d, "p", "0 5\n")
	taken(t, l, 100, 100)
	wantNumbers(t, l, 0, 6, 4, 4)
}

// START lies within a batch by a meta that says so: the log's own calls have it at a place.
func TestCutBelowStartBeginsAnew(t *testing.T) {
	for _, offset := range []int{36, 37, 38} {
		d := made(t, 10000)
		l := opened(t, d, "p", 256)
		must(t, l.Take(batch(0, 4)), l.Take(batch(4, 30)), l.Take(batch(34, 5)), l.Take(batch(39, 2)), l.Sync())
		wantFiles(t, d, "p", 0, 34)
		must(t, d.Replace("p.meta", "36 40\n"))
		l = opened(t, d, "p", 256)
		wantNumbers(t, l, 36, 41, 41, 40)
		stuff(t, d, 0)
		must(t, l.Cut(offset))
		wantNumbers(t, l, 36, 36, 36, 36)
		wantFiles(t, d, "p", 36)
		wantMeta(t, d, "p", "36 36\n")
		wantAll(t, l)
		d.Crash(nil)
		wantNumbers(t, opened(t, d, "p", 256), 36, 36, 36, 36)
		must(t, l.Take(batch(36, 1)))
	}
	d := made(t, 10000)
	l := opened(t, d, "p", 256)
	must(t, l.Take(batch(0, 4)), l.Take(batch(4, 2)), l.Sync(), d.Replace("p.meta", "2 6\n"))
	l = opened(t, d, "p", 256)
	must(t, l.Cut(4))
	wantNumbers(t, l, 2, 4, 4, 4)
	wantAll(t, l, batch(0, 4))
}

// L4

func TestDeleteRanges(t *testing.T) {
	d := made(t, 10000)
	l := opened(t, d, "p", 1000)
	must(t, l.Take(batch(0, 2)), l.Take(batch(2, 3)), l.Take(batch(5, 1)), l.Sync())
	for _, offset := range []int{-1, 1, 3, 4, 7, math.MaxInt, math.MinInt} {
		wantUnchanged(t, d, l, "Delete", api.ErrRange, func() api.Errno { return l.Delete(offset) })
	}
	must(t, l.Delete(0))
	wantNumbers(t, l, 0, 6, 6, 0)
	wantMeta(t, d, "p", "0 0\n")
	must(t, l.Delete(2))
	wantNumbers(t, l, 2, 6, 6, 2)
	wantMeta(t, d, "p", "2 2\n")
	for _, offset := range []int{0, 1, 3, 4, 7} {
		wantUnchanged(t, d, l, "Delete", api.ErrRange, func() api.Errno { return l.Delete(offset) })
	}
	wantUnchanged(t, d, l, "Delete of START", api.OK, func() api.Errno { return l.Delete(2) })
	must(t, l.Delete(6))
	wantNumbers(t, l, 6, 6, 6, 6)
	wantAll(t, l)
	wantFiles(t, d, "p", 0)
	wantUnchanged(t, d, l, "Delete of NEXT", api.OK, func() api.Errno { return l.Delete(6) })
}

func TestDeleteRemovesSegments(t *testing.T) {
	for _, c := range []struct {
		offset int
		bases  []int
	}{
		{0, []int{0, 3, 6}},
		{2, []int{0, 3, 6}},
		{3, []int{3, 6}}, // the first one's Next
		{4, []int{3, 6}},
		{5, []int{3, 6}},
		{6, []int{6}},
		{7, []int{6}},
		{8, []int{6}}, // the last one stays
	} {
		d := made(t, 10000)
		l, list := three(t, d)
		must(t, l.Delete(c.offset))
		wantFiles(t, d, "p", c.bases...)
		wantNumbers(t, l, c.offset, 8, 8, c.offset)
		wantAll(t, l, list[c.offset:]...)
		d.Crash(nil)
		l = opened(t, d, "p", 300)
		wantFiles(t, d, "p", c.bases...)
		wantNumbers(t, l, c.offset, 8, 8, c.offset)
		wantAll(t, l, list[c.offset:]...)
		more := taken(t, l, 100, 100, 100)
		wantAll(t, l, append(list[c.offset:8:8], more...)...)
		if _, e := l.Read(c.offset-1, 10); e != api.ErrRange {
			t.Fatalf("Read below START: %d", int(e))
		}
	}
}

// Segments that a meta says are deleted are opened all the same; a Delete removes them.
func TestDeleteAtStartRemovesWhatLiesAhead(t *testing.T) {
	d := made(t, 10000)
	l, list := three(t, d)
	must(t, d.Replace("p.meta", "6 7\n"))
	l = opened(t, d, "p", 300)
	wantFiles(t, d, "p", 0, 3, 6)
	wantAll(t, l, list[6:]...)
	must(t, l.Delete(6))
	wantFiles(t, d, "p", 6)
	wantNumbers(t, l, 6, 8, 8, 7)
}

func TestDeleteWhereStartIsNoPlace(t *testing.T) {
	d := made(t, 10000)
	l := opened(t, d, "p", 1000)
	must(t, l.Take(batch(0, 4)), l.Take(batch(4, 2)), l.Sync(), d.Replace("p.meta", "2 3\n"))
	l = opened(t, d, "p", 1000)
	for _, offset := range []int{0, 1, 2, 3, 5} {
		wantUnchanged(t, d, l, "Delete", api.ErrRange, func() api.Errno { return l.Delete(offset) })
	}
	must(t, l.Delete(4))
	wantNumbers(t, l, 4, 6, 6, 4)
}

func TestDeleteKeepsAHigherHigh(t *testing.T) {
	d := made(t, 10000)
	l, _ := three(t, d)
	must(t, l.Save(5), l.Delete(4))
	wantNumbers(t, l, 4, 8, 8, 5)
	wantMeta(t, d, "p", "4 5\n")
	must(t, l.Delete(7))
	wantNumbers(t, l, 7, 8, 8, 7)
	wantMeta(t, d, "p", "7 7\n")
}

func TestKeepOnAFullDisk(t *testing.T) {
	d := made(t, 10000)
	l, list := three(t, d)
	stuff(t, d, 3)
	wantFull := func(want api.Errno) {
		t.Helper()
		wantUnchanged(t, d, l, "Delete", want, func() api.Errno { return l.Delete(3) })
		wantUnchanged(t, d, l, "Begin", want, func() api.Errno { return l.Begin(3) })
		wantUnchanged(t, d, l, "Save", want, func() api.Errno { return l.Save(3) })
		wantUnchanged(t, d, l, "Begin of -1", api.ErrArg, func() api.Errno { return l.Begin(-1) })
		wantUnchanged(t, d, l, "Delete of 9", api.ErrRange, func() api.Errno { return l.Delete(9) })
		wantUnchanged(t, d, l, "Save of 9", api.ErrRange, func() api.Errno { return l.Save(9) })
	}
	wantFull(api.ErrFull)
	must(t, d.Cut("stuff", 1))
	crowd(t, d, api.MaxFiles)
	wantFull(api.ErrMany)
	must(t, d.Remove("crowd0"))
	stuff(t, d, 4)
	must(t, l.Save(3))
	// The meta's own bytes are room for the next one.
	must(t, l.Save(4), l.Delete(3))
	wantNumbers(t, l, 3, 8, 8, 4)
	wantAll(t, l, list[3:]...)
	must(t, l.Begin(9))
	wantNumbers(t, l, 9, 9, 9, 9)
	wantAll(t, l)
}

func TestBegin(t *testing.T) {
	for _, offset := range []int{0, 1, 3, 6, 7, 8, 9, api.MaxOffset - 1, api.MaxOffset} {
		d := made(t, 10000)
		l, _ := three(t, d)
		must(t, l.Save(5), l.Delete(4), l.Begin(offset))
		want := func() {
			t.Helper()
			wantNumbers(t, l, offset, offset, offset, offset)
			wantAll(t, l)
			wantFiles(t, d, "p", offset)
			wantMeta(t, d, "p", strconv.Itoa(offset)+" "+strconv.Itoa(offset)+"\n")
			wantRead(t, l, offset, 1000)
		}
		want()
		if offset < api.MaxOffset {
			taken(t, l, 100)
			must(t, l.Cut(offset))
			want()
		}
		d.Crash(nil)
		l = opened(t, d, "p", 300)
		want()
	}
}

func TestBeginRefused(t *testing.T) {
	d := made(t, 10000)
	l, _ := three(t, d)
	for _, offset := range []int{-1, api.MaxOffset + 1, math.MaxInt, math.MinInt} {
		wantUnchanged(t, d, l, "Begin", api.ErrArg, func() api.Errno { return l.Begin(offset) })
	}
}

// All of a disk's files may be there: the new segment has the place of one that is removed.
func TestBeginAmongAllFiles(t *testing.T) {
	d := made(t, 10000)
	l, _ := three(t, d)
	must(t, l.Save(1))
	crowd(t, d, api.MaxFiles)
	must(t, l.Begin(100))
	wantFiles(t, d, "p", 100)
	wantNumbers(t, l, 100, 100, 100, 100)
}

// L5

func TestSave(t *testing.T) {
	d := made(t, 10000)
	l, _ := three(t, d)
	must(t, l.Delete(2))
	for _, high := range []int{1, 0, -1, 9, math.MaxInt, math.MinInt} {
		wantUnchanged(t, d, l, "Save", api.ErrRange, func() api.Errno { return l.Save(high) })
	}
	// It may also go back.
	for _, high := range []int{2, 8, 5, 3} {
		must(t, l.Save(high))
		wantNumbers(t, l, 2, 8, 8, high)
		wantMeta(t, d, "p", "2 "+strconv.Itoa(high)+"\n")
		d.Crash(nil)
		l = opened(t, d, "p", 300)
		wantNumbers(t, l, 2, 8, 8, high)
	}
}

func TestReadRanges(t *testing.T) {
	d := made(t, 10000)
	l, list := three(t, d)
	must(t, l.Delete(2))
	for _, offset := range []int{1, 0, -1, 9, math.MaxInt, math.MinInt} {
		for _, most := range []int{0, 1000, -1, math.MaxInt} {
			if got, e := l.Read(offset, most); len(got) != 0 || e != api.ErrRange {
				t.Fatalf("Read(%d, %d): got %v, %d", offset, most, got, int(e))
			}
		}
	}
	for _, most := range []int{0, 1000, -1, math.MinInt, math.MaxInt} {
		wantRead(t, l, 8, most)
	}
	for offset := 2; offset < 8; offset++ {
		wantRead(t, l, offset, math.MaxInt, list[offset:]...)
	}
}

func TestReadThroughSegments(t *testing.T) {
	d := made(t, 10000)
	l, list := three(t, d)
	for offset := range 8 {
		for most := range 1001 {
			n := max(1, min(most/100, 8-offset))
			wantRead(t, l, offset, most, list[offset:offset+n]...)
		}
		for _, most := range []int{-1, -100, math.MinInt, math.MinInt + 50} {
			wantRead(t, l, offset, most, list[offset])
		}
	}
}

// A batch that has no room ends the reading, also if one behind it, in the next segment, had some.
func TestReadLeavesNothingOut(t *testing.T) {
	d := made(t, 10000)
	l := opened(t, d, "p", 256)
	list := taken(t, l, 40, 300, 50, 60, 300, 30, 400, 100)
	wantFiles(t, d, "p", 0, 2, 5, 7)
	for _, c := range []struct{ offset, most, n int }{
		{0, 39, 1}, {0, 40, 1}, {0, 339, 1}, {0, 340, 2}, {0, 389, 2}, {0, 390, 3}, {0, 449, 3}, {0, 450, 4}, {0, 749, 4}, {0, 750, 5}, {0, 779, 5}, {0, 780, 6}, {0, 1179, 6}, {0, 1180, 7}, {0, 1279, 7}, {0, 1280, 8},
		{1, 40, 1}, {1, 299, 1}, {1, 300, 1}, {1, 349, 1}, {1, 350, 2},
		{2, 100, 1}, {2, 110, 2}, {2, 409, 2}, {2, 410, 3}, {2, 439, 3}, {2, 440, 4},
		{4, 329, 1}, {4, 330, 2}, {6, 100, 1}, {6, 499, 1}, {6, 500, 2}, {7, 0, 1}, {7, 1000, 1},
	} {
		wantRead(t, l, c.offset, c.most, list[c.offset:c.offset+c.n]...)
	}
}

func TestReadWithinABatch(t *testing.T) {
	d := made(t, 10000)
	l := opened(t, d, "p", 256)
	list := []api.Batch{batch(0, 4), batch(4, 30), batch(34, 5), batch(39, 2)}
	for _, b := range list {
		must(t, l.Take(b))
	}
	for offset := range 41 {
		from := 0
		for list[from].Base+len(list[from].Records) <= offset {
			from++
		}
		wantRead(t, l, offset, 0, list[from])
		wantRead(t, l, offset, 10000, list[from:]...)
	}
	// At a START within a batch, too.
	must(t, l.Sync(), d.Replace("p.meta", "20 20\n"))
	l = opened(t, d, "p", 256)
	wantRead(t, l, 20, 0, list[1])
	wantRead(t, l, 33, 10000, list[1:]...)
	wantAll(t, l, list[1:]...)
	if got, e := l.Read(19, 100); len(got) != 0 || e != api.ErrRange {
		t.Fatalf("Read(19): got %v, %d", got, int(e))
	}
}

func TestAllBehindADeleteWithinASegment(t *testing.T) {
	d := made(t, 10000)
	l, list := three(t, d)
	for offset := range 9 {
		must(t, l.Delete(offset))
		wantAll(t, l, list[offset:]...)
	}
}

// P3

func TestNothingIsSharedWithACaller(t *testing.T) {
	d := made(t, 10000)
	l := opened(t, d, "p", 256)
	mine := batch(0, 3)
	mine.Records = append(mine.Records, api.Record{Key: "behind"})[:3]
	must(t, l.Take(mine))
	if !reflect.DeepEqual(mine, batch(0, 3)) || mine.Records[:4][3].Key != "behind" {
		t.Fatal("Take changed what was handed in")
	}
	if _, e := l.Append(mine); e != api.OK || mine.Base != 0 {
		t.Fatal("Append changed what was handed in")
	}
	mine.Records[0].Key = "changed"
	second := batch(0, 3)
	second.Base = 3
	wantAll(t, l, batch(0, 3), second)
	read, _ := l.Read(0, 1000)
	all := l.All()
	read[0].Records[0].Key, all[1].Records[0].Key = "changed", "changed"
	_, _ = append(read[0].Records, api.Record{}), append(read[:1], api.Batch{})
	wantAll(t, l, batch(0, 3), second)
	wantRead(t, l, 0, 1000, batch(0, 3), second)
}

// P1: a log that Open did not make.
func TestALogThatOpenDidNotMake(t *testing.T) {
	l := &plog.Log{}
	if n, e := l.Append(batch(0, 1)); n != 0 || e == api.OK {
		t.Fatalf("Append: got %d, %d", n, int(e))
	}
	if l.Take(batch(0, 1)) == api.OK || l.Sync() == api.OK || l.Begin(3) == api.OK || l.Save(0) == api.OK || l.Delete(0) == api.OK {
		t.Fatal("it took something")
	}
	wantErr(t, "Cut", l.Cut(1), api.ErrRange)
	l.Cut(0)
	wantNumbers(t, l, 0, 0, 0, 0)
	wantRead(t, l, 0, 10)
	wantAll(t, l)
}

func TestTwoLogsOnOneDisk(t *testing.T) {
	d := made(t, 100000)
	names := []string{"p", "p-", "p-0000000000", "p0", "0", "-", "p-0"}
	logs := make([]*plog.Log, len(names))
	for i, name := range names {
		logs[i] = opened(t, d, name, 256)
	}
	for round := range 7 {
		for i := range logs {
			for range i {
				must(t, logs[i].Take(sized(t, logs[i].Next(), 100)))
			}
			must(t, logs[i].Sync(), logs[i].Save(round*i), logs[i].Delete(round*i))
		}
	}
	d.Crash(nil)
	for i, name := range names {
		wantNumbers(t, opened(t, d, name, 256), 6*i, 7*i, 7*i, 6*i)
	}
	must(t, logs[0].Begin(77))
	for i, name := range names[1:] {
		i++
		wantNumbers(t, opened(t, d, name, 256), 6*i, 7*i, 7*i, 6*i)
	}
}

func TestExamples(t *testing.T) {
	d := made(t, 10000)
	l := opened(t, d, "p", 256)
	for i := range 3 {
		if n, e := l.Append(batch(50, 1)); n != i || e != api.OK {
			t.Fatalf("Append: got %d, %d", n, int(e))
		}
		if i == 1 {
			must(t, l.Sync())
		}
	}
	if l.Next() != 3 || l.Safe() != 2 {
		t.Fatalf("Next %d, Safe %d", l.Next(), l.Safe())
	}
	must(t, l.Delete(1))
	if l.Start() != 1 {
		t.Fatalf("Start %d", l.Start())
	}
	if got, e := l.Read(0, 10); len(got) != 0 || e != api.ErrRange {
		t.Fatalf("Read(0, 10): got %v, %d", got, int(e))
	}
	one := batch(50, 1)
	one.Base = 1
	wantRead(t, l, 1, 1, one)
	must(t, l.Cut(2))
	if l.Next() != 2 {
		t.Fatalf("Next %d", l.Next())
	}
	wantErr(t, "Cut(0)", l.Cut(0), api.ErrRange)
	must(t, l.Begin(9))
	wantNumbers(t, l, 9, 9, 9, 9)
	wantErr(t, "Take of 8", l.Take(batch(8, 1)), api.ErrOrder)
	must(t, l.Take(batch(9, 1)))
}
