package store_test

import (
	"math"
	"reflect"
	"slices"
	"strconv"
	"strings"
	"testing"

	"logboom/api"
	"logboom/dedup"
	"logboom/disk"
	"logboom/epochs"
	"logboom/store"
	"logboom/wire"
)

const (
	cacheFile = "p.epochs"
	tableFile = "p.pids"
	metaFile  = "p.meta"
	// big is as many bytes as a segment may have: so a log has one alone.
	big = 1000000
)

func made(t *testing.T, size int) *disk.Disk {
	t.Helper()
	d, e := disk.New(size)
	if e != api.OK {
		t.Fatalf("New(%d): %v", size, e)
	}
	return d
}

// must ends the test at the first call that is refused.
func must(t *testing.T, es ...api.Errno) {
	t.Helper()
	for i, e := range es {
		if e != api.OK {
			t.Fatalf("call %d: %v", i, e)
		}
	}
}

func opened(t *testing.T, d *disk.Disk, most int) *store.Store {
	t.Helper()
	s, e := store.Open(d, "p", most)
	if s == nil || e != api.OK {
		t.Fatalf("Open(p, %d): %v", most, e)
	}
	return s
}

// lying is a batch of a producer, and where it lies.
type lying struct{ pid, epoch, seq, n, at int }

// of is a batch of an epoch of the partition, of a producer, with so many records, of the epoch 0 of it.
func of(epoch, pid, seq, n int) api.Batch {
	b := api.Batch{Epoch: epoch, Pid: pid, Seq: seq}
	for i := range n {
		b.Records = append(b.Records, api.Record{Key: "key", Value: strconv.Itoa(seq + i), Time: 9})
	}
	return b
}

func at(base int, b api.Batch) api.Batch {
	b.Base = base
	return b
}

func end(b api.Batch) int { return b.Base + len(b.Records) }

// bytesOf is batches as they are written, one behind the other.
func bytesOf(t *testing.T, list ...api.Batch) string {
	t.Helper()
	all := ""
	for _, b := range list {
		s, e := wire.Batch(b)
		must(t, e)
		all += s
	}
	return all
}

// appended has a store append batches: as they lie there.
func appended(t *testing.T, s *store.Store, list ...api.Batch) []api.Batch {
	t.Helper()
	var lie []api.Batch
	for _, b := range list {
		next := s.Log().Next()
		n, e := s.Append(b)
		if n != next || e != api.OK {
			t.Fatalf("Append: got %d, %d, want %d", n, int(e), next)
		}
		lie = append(lie, at(n, b))
	}
	return lie
}

// ten has batches of one record, ten of producer 7, of the epochs 2 (0 to 3), 4 (4 to 7) and 5 (8, 9), all safe.
func ten(t *testing.T, d *disk.Disk, most int) (*store.Store, []api.Batch) {
	t.Helper()
	s := opened(t, d, most)
	var list []api.Batch
	for i := range 10 {
		list = append(list, of([]int{2, 4, 5}[i/4], 7, i, 1))
	}
	list = appended(t, s, list...)
	must(t, s.Sync())
	wantCache(t, s, 2, 0, 4, 4, 5, 8)
	return s, list
}

func wantErr(t *testing.T, what string, got, want api.Errno) {
	t.Helper()
	if got != want {
		t.Fatalf("%s: got %d, want %d", what, int(got), int(want))
	}
}

func wantLog(t *testing.T, s *store.Store, start int, list ...api.Batch) {
	t.Helper()
	next := start
	if len(list) > 0 {
		next = end(list[len(list)-1])
	}
	l := s.Log()
	if got := l.All(); l.Start() != start || l.Next() != next || len(got) != len(list) || len(list) > 0 && !reflect.DeepEqual(got, list) {
		t.Fatalf("the log: Start %d, Next %d, %.300v, want %d, %d, %.300v", l.Start(), l.Next(), got, start, next, list)
	}
}

// wantCache asks for epochs and offsets, one of each at a time.
func wantCache(t *testing.T, s *store.Store, list ...int) {
	t.Helper()
	var got []int
	for _, x := range s.Cache().All() {
		got = append(got, x.Term, x.Index)
	}
	if !slices.Equal(got, list) {
		t.Fatalf("the cache: got %v, want %v", got, list)
	}
}

// wantCacheFile asks for the same of the file, all of it safe.
func wantCacheFile(t *testing.T, d *disk.Disk, list ...int) {
	t.Helper()
	copied := d.Clone()
	copied.Crash(nil)
	c, e := epochs.Open(copied, cacheFile)
	must(t, e)
	var got []int
	for _, x := range c.All() {
		got = append(got, x.Term, x.Index)
	}
	if !slices.Equal(got, list) {
		t.Fatalf("the cache's file: got %v, want %v", got, list)
	}
}

// tableOf is one with these notes, in order.
func tableOf(list ...lying) *dedup.Table {
	x := dedup.New()
	for _, m := range list {
		x.Note(api.Batch{Base: m.at, Pid: m.pid, PidEpoch: m.epoch, Seq: m.seq, Records: make([]api.Record, m.n)})
	}
	return x
}

// run is notes of producer 7, of one record each, from a sequence up to another, each at its sequence as offset.
func run(from, to int) []lying {
	var list []lying
	for i := from; i < to; i++ {
		list = append(list, lying{7, 0, i, 1, i})
	}
	return list
}

func wantTable(t *testing.T, x *dedup.Table, list ...lying) {
	t.Helper()
	if got, want := x.Keep(), tableOf(list...).Keep(); got != want {
		t.Fatalf("the table: got %q, want %q", got, want)
	}
}

func wantTableFile(t *testing.T, d *disk.Disk, list ...lying) {
	t.Helper()
	want := tableOf(list...).Keep()
	if got, e := d.Read(tableFile); got != want || e != api.OK || d.Synced(tableFile) != len(want) {
		t.Fatalf("the table's file: got %q, %d, want %q", got, int(e), want)
	}
}

func wantNoFile(t *testing.T, d *disk.Disk, name string) {
	t.Helper()
	if slices.Contains(d.Names(), name) {
		t.Fatalf("there is a file %s", name)
	}
}

func wantAsk(t *testing.T, s *store.Store, pid, epoch, seq, n, want int, err api.Errno) {
	t.Helper()
	if got, e := s.Table().Ask(pid, epoch, seq, n); got != want || e != err {
		t.Fatalf("Ask(%d, %d, %d, %d): got %d, %d, want %d, %d", pid, epoch, seq, n, got, int(e), want, int(err))
	}
}

// picture is all that a disk tells of itself.
func picture(d *disk.Disk) string {
	var s strings.Builder
	s.WriteString("free " + strconv.Itoa(d.Free()))
	for _, name := range d.Names() {
		b, _ := d.Read(name)
		s.WriteString("\n" + name + " " + strconv.Itoa(d.Synced(name)) + " " + strconv.Quote(b))
	}
	return s.String()
}

// told is all that a store tells of itself.
func told(s *store.Store) string {
	l := s.Log()
	var b strings.Builder
	for _, n := range []int{l.Start(), l.Next(), l.Safe(), l.Saved()} {
		b.WriteString(strconv.Itoa(n) + " ")
	}
	for _, x := range l.All() {
		bytes, _ := wire.Batch(x)
		b.WriteString(strconv.Quote(bytes))
	}
	for _, x := range s.Cache().All() {
		b.WriteString(" " + strconv.Itoa(x.Term) + " " + strconv.Itoa(x.Index))
	}
	return b.String() + strconv.Quote(s.Table().Keep())
}

// wantUnchanged asks that a call is refused and changes nothing, neither on the disk nor in the store.
func wantUnchanged(t *testing.T, d *disk.Disk, s *store.Store, what string, want api.Errno, call func() api.Errno) {
	t.Helper()
	before, tells, table := picture(d), told(s), s.Table()
	wantErr(t, what, call(), want)
	if picture(d) != before {
		t.Fatalf("%s: the disk was\n%.900s\nis\n%.900s", what, before, picture(d))
	}
	if told(s) != tells || s.Table() != table {
		t.Fatalf("%s: the store told\n%.900s\nnow it tells\n%.900s", what, tells, told(s))
	}
}

// stuff fills the disk but for so many bytes, by a file of another.
func stuff(t *testing.T, d *disk.Disk, free int) {
	t.Helper()
	d.Remove("stuff")
	must(t, d.Append("stuff", strings.Repeat("x", d.Free()-free)), d.Sync("stuff"))
}

// crowd makes files until there are so many.
func crowd(t *testing.T, d *disk.Disk, files int) {
	t.Helper()
	for i := 0; len(d.Names()) < files; i++ {
		must(t, d.Append("crowd"+strconv.Itoa(i), ""))
	}
}

// the chapter's examples

func TestExamples(t *testing.T) {
	d := made(t, 100000)
	s := opened(t, d, 256)
	appended(t, s, of(2, 7, 0, 1), of(2, 7, 1, 1))
	if s.Log().Next() != 2 || s.Cache().Last() != 2 {
		t.Fatalf("Next %d, Last %d", s.Log().Next(), s.Cache().Last())
	}
	if e, n := s.Cache().End(2, 2); e != 2 || n != 2 {
		t.Fatalf("End(2, 2): %d, %d", e, n)
	}
	wantAsk(t, s, 7, 0, 0, 1, 0, api.OK)
	wantUnchanged(t, d, s, "Append of epoch 1", api.ErrFenced, func() api.Errno {
		_, e := s.Append(of(1, 7, 2, 1))
		return e
	})
	must(t, s.Sync(), s.Delete(1))
	d.Crash(nil)
	s = opened(t, d, 256)
	wantAsk(t, s, 7, 0, 0, 1, 0, api.OK)
	wantLog(t, s, 1, at(1, of(2, 7, 1, 1)))
	must(t, s.Cut(1))
	wantAsk(t, s, 7, 0, 1, 1, -1, api.OK)
}

// B2, what is taken

func TestAppendGivesTheNextOffset(t *testing.T) {
	d := made(t, 100000)
	s := opened(t, d, 256)
	var list []api.Batch
	seq := 0
	for i, base := range []int{0, 5, -7, math.MaxInt, math.MinInt, 1} {
		list = append(list, appended(t, s, at(base, of(3, 7, seq, 1+i)))...)
		seq += 1 + i
	}
	wantLog(t, s, 0, list...)
	wantCache(t, s, 3, 0)
	for i, b := range list {
		want, e := b.Base, api.OK
		if i < len(list)-api.MaxFlight {
			want, e = -1, api.ErrDuplicate
		}
		wantAsk(t, s, 7, 0, b.Seq, len(b.Records), want, e)
	}
	wantAsk(t, s, 7, 0, seq, 1, -1, api.OK)
}

func TestTakeTakesJustTheNextOffset(t *testing.T) {
	d := made(t, 100000)
	s := opened(t, d, 256)
	must(t, s.Take(at(0, of(3, 7, 0, 4))))
	for _, base := range []int{0, 3, 5, -1, math.MaxInt, math.MinInt} {
		wantUnchanged(t, d, s, "Take", api.ErrOrder, func() api.Errno { return s.Take(at(base, of(3, 7, 4, 1))) })
	}
	must(t, s.Take(at(4, of(3, 7, 4, 2))))
	wantLog(t, s, 0, at(0, of(3, 7, 0, 4)), at(4, of(3, 7, 4, 2)))
	wantAsk(t, s, 7, 0, 0, 4, 0, api.OK)
	wantAsk(t, s, 7, 0, 4, 2, 4, api.OK)
}

// What is taken need not be what Ask calls new: a follower takes what its leader has.
func TestTakeDoesNotAskTheTable(t *testing.T) {
	s := opened(t, made(t, 100000), 256)
	list := appended(t, s, of(3, 7, 5, 2), of(3, 7, 5, 2), of(3, 0, 0, 1), of(3, 7, 9, 1))
	wantLog(t, s, 0, list...)
	wantTable(t, s.Table(), lying{7, 0, 5, 2, 0}, lying{7, 0, 9, 1, 5})
}

func TestAnEpochBeginsWithItsFirstBatch(t *testing.T) {
	d := made(t, 100000)
	s := opened(t, d, 256)
	wantNoFile(t, d, cacheFile)
	appended(t, s, of(0, 7, 0, 3))
	wantCache(t, s, 0, 0)
	wantCacheFile(t, d, 0, 0)
	before, _ := d.Read(cacheFile)
	appended(t, s, of(0, 7, 3, 2))
	if after, _ := d.Read(cacheFile); after != before {
		t.Fatal("the file is another one, though no epoch began")
	}
	appended(t, s, of(1, 7, 5, 1), of(9, 7, 6, 2), of(9, 7, 8, 1))
	must(t, s.Take(at(9, of(api.MaxOffset, 7, 9, 1))))
	wantCache(t, s, 0, 0, 1, 5, 9, 6, api.MaxOffset, 9)
	wantCacheFile(t, d, 0, 0, 1, 5, 9, 6, api.MaxOffset, 9)
}

func TestAnOlderEpochIsFencedAheadOfAllElse(t *testing.T) {
	d := made(t, 100000)
	s := opened(t, d, 256)
	appended(t, s, of(5, 7, 0, 1))
	stuff(t, d, 0)
	for _, b := range []api.Batch{of(4, 7, 1, 1), of(0, 7, 1, 1), of(-1, 7, 1, 1), of(math.MinInt, 7, 1, 1), of(4, 7, 1, 0), of(4, 7, 1, 65), of(4, 0, 1, 1)} {
		for _, base := range []int{0, 1, 2, -1} {
			wantUnchanged(t, d, s, "Take", api.ErrFenced, func() api.Errno { return s.Take(at(base, b)) })
		}
		if n, e := s.Append(b); n != 0 || e != api.ErrFenced {
			t.Fatalf("Append: got %d, %d", n, int(e))
		}
	}
	// Of a store without epochs the last one is -1.
	d = made(t, 1000)
	s = opened(t, d, 256)
	wantUnchanged(t, d, s, "Take of epoch -2", api.ErrFenced, func() api.Errno { return s.Take(of(-2, 7, 0, 1)) })
	wantUnchanged(t, d, s, "Take of epoch -1", api.ErrArg, func() api.Errno { return s.Take(of(-1, 7, 0, 1)) })
}

func TestARefusedBatchOfTheLastEpochChangesNothing(t *testing.T) {
	d := made(t, 10000)
	s := opened(t, d, 256)
	appended(t, s, of(5, 7, 0, 1))
	long := of(5, 7, 1, 1)
	long.Records[0].Value = strings.Repeat("v", api.MaxText+1)
	for _, c := range []struct {
		b    api.Batch
		want api.Errno
	}{
		{of(5, 7, 1, 0), api.ErrArg},
		{of(5, 0, 1, 1), api.ErrArg},
		{of(5, -1, 1, 1), api.ErrArg},
		{of(5, 7, 1, 65), api.ErrMany},
		{of(5, 7, api.MaxSeq, 2), api.ErrOver},
		{long, api.ErrLong},
	} {
		wantUnchanged(t, d, s, "Take", c.want, func() api.Errno { return s.Take(at(1, c.b)) })
		wantUnchanged(t, d, s, "Append", c.want, func() api.Errno {
			n, e := s.Append(c.b)
			if n != 0 {
				t.Fatalf("a refused Append told %d", n)
			}
			return e
		})
		wantUnchanged(t, d, s, "Take at 2", api.ErrOrder, func() api.Errno { return s.Take(at(2, c.b)) })
	}
	stuff(t, d, len(bytesOf(t, at(1, of(5, 7, 1, 1))))-1)
	wantUnchanged(t, d, s, "full", api.ErrFull, func() api.Errno { return s.Take(at(1, of(5, 7, 1, 1))) })
	stuff(t, d, len(bytesOf(t, at(1, of(5, 7, 1, 1)))))
	must(t, s.Take(at(1, of(5, 7, 1, 1))))
}

func TestAnEpochThatTheCacheRefuses(t *testing.T) {
	d := made(t, 10000)
	s := opened(t, d, 256)
	appended(t, s, of(5, 7, 0, 1))
	for _, epoch := range []int{api.MaxOffset + 1, math.MaxInt} {
		// The cache's error is told ahead of the log's.
		for _, base := range []int{0, 1, 2} {
			wantUnchanged(t, d, s, "Take", api.ErrArg, func() api.Errno { return s.Take(at(base, of(epoch, 7, 1, 1))) })
		}
	}
	stuff(t, d, 1)
	wantUnchanged(t, d, s, "full", api.ErrFull, func() api.Errno { return s.Take(at(7, of(6, 7, 1, 1))) })
	// A place more in the cache costs two bytes here.
	stuff(t, d, 2)
	wantErr(t, "an epoch, no batch", s.Take(at(7, of(6, 7, 1, 1))), api.ErrOrder)
	d.Remove("stuff")

	fresh := made(t, 10000)
	s = opened(t, fresh, 256)
	crowd(t, fresh, api.MaxFiles)
	wantUnchanged(t, fresh, s, "too many files", api.ErrMany, func() api.Errno { return s.Take(at(7, of(6, 7, 1, 1))) })

	d = made(t, 100000)
	s = opened(t, d, big)
	for i := range 200 {
		appended(t, s, of(i, 7, i, 1))
	}
	wantUnchanged(t, d, s, "too many epochs", api.ErrMany, func() api.Errno { return s.Take(at(7, of(200, 7, 200, 1))) })
	appended(t, s, of(199, 7, 200, 1))
}

// The epoch that began ahead of a refused batch is gone with it.
func TestARefusedBatchBeginsNoEpoch(t *testing.T) {
	d := made(t, 10000)
	s := opened(t, d, 256)
	for range 2 {
		wantErr(t, "an empty store", s.Take(at(3, of(5, 7, 0, 1))), api.ErrOrder)
		wantCache(t, s)
		wantCacheFile(t, d)
		wantLog(t, s, 0)
	}
	list := appended(t, s, of(5, 7, 0, 1), of(6, 7, 1, 1))
	for _, c := range []struct {
		b    api.Batch
		want api.Errno
	}{
		{at(1, of(7, 7, 2, 1)), api.ErrOrder},
		{at(2, of(7, 7, 2, 0)), api.ErrArg},
		{at(2, of(7, 0, 2, 1)), api.ErrArg},
		{at(2, of(7, 7, 2, 65)), api.ErrMany},
		{at(2, of(7, 7, api.MaxSeq, 2)), api.ErrOver},
	} {
		wantUnchanged(t, d, s, "Take", c.want, func() api.Errno { return s.Take(c.b) })
		wantCacheFile(t, d, 5, 0, 6, 1)
	}
	stuff(t, d, 2+len(bytesOf(t, at(2, of(7, 7, 2, 1))))-1)
	wantUnchanged(t, d, s, "full", api.ErrFull, func() api.Errno { return s.Take(at(2, of(7, 7, 2, 1))) })
	if n, e := s.Append(of(7, 7, 2, 1)); n != 0 || e != api.ErrFull {
		t.Fatalf("Append: got %d, %d", n, int(e))
	}
	wantCacheFile(t, d, 5, 0, 6, 1)
	stuff(t, d, 2+len(bytesOf(t, at(2, of(7, 7, 2, 1)))))
	list = append(list, appended(t, s, of(7, 7, 2, 1))...)
	wantLog(t, s, 0, list...)
	wantCacheFile(t, d, 5, 0, 6, 1, 7, 2)
	wantTable(t, s.Table(), run(0, 3)...)
}

// Of a log that is empty behind a deletion the last epoch begins at Next: a new epoch takes its place, and a refused batch takes that away; one of the same epoch does not.
func TestARefusedBatchBehindADeletionOfAll(t *testing.T) {
	d := made(t, 10000)
	s := opened(t, d, 256)
	appended(t, s, of(5, 7, 0, 1))
	must(t, s.Delete(1))
	wantCache(t, s, 5, 1)
	wantUnchanged(t, d, s, "the same epoch", api.ErrOrder, func() api.Errno { return s.Take(at(0, of(5, 7, 1, 1))) })
	wantErr(t, "a new epoch", s.Take(at(0, of(6, 7, 1, 1))), api.ErrOrder)
	wantCache(t, s)
	wantCacheFile(t, d)
}

func TestOffsetsEndAtMaxOffset(t *testing.T) {
	d := made(t, 10000)
	s := opened(t, d, 256)
	must(t, s.Begin(api.MaxOffset-2, dedup.New().Keep()))
	wantErr(t, "three", s.Take(at(api.MaxOffset-2, of(1, 7, 0, 3))), api.ErrOver)
	wantCache(t, s)
	list := appended(t, s, of(1, 7, 0, 2))
	wantLog(t, s, api.MaxOffset-2, list...)
	wantUnchanged(t, d, s, "one more", api.ErrOver, func() api.Errno { return s.Take(at(api.MaxOffset, of(1, 7, 2, 1))) })
	wantErr(t, "one more, of a new epoch", s.Take(at(api.MaxOffset, of(2, 7, 2, 1))), api.ErrOver)
	wantCache(t, s, 1, api.MaxOffset-2)
	must(t, s.Delete(api.MaxOffset))
	wantCache(t, s, 1, api.MaxOffset)
	must(t, s.Cut(api.MaxOffset))
	wantCache(t, s)
}

func TestSyncMakesTheLogSafe(t *testing.T) {
	d := made(t, 10000)
	s := opened(t, d, big)
	list := appended(t, s, of(1, 7, 0, 1), of(2, 7, 1, 1))
	if n := s.Log().Safe(); n != 0 {
		t.Fatalf("Safe ahead of Sync: %d", n)
	}
	must(t, s.Sync())
	if n := s.Log().Safe(); n != 2 {
		t.Fatalf("Safe behind Sync: %d", n)
	}
	appended(t, s, of(2, 7, 2, 1))
	d.Crash(nil)
	s = opened(t, d, big)
	wantLog(t, s, 0, list...)
	wantCache(t, s, 1, 0, 2, 1)
	wantTable(t, s.Table(), run(0, 2)...)
	// A file that others took away cannot be synced.
	must(t, d.Remove("p-0000000000.log"))
	wantErr(t, "Sync", s.Sync(), api.ErrNone)
}

// P3
func TestWhatIsHandedInIsNotKept(t *testing.T) {
	d := made(t, 10000)
	s := opened(t, d, 256)
	b := of(1, 7, 0, 2)
	records := b.Records
	must(t, s.Take(b))
	records[0].Value, records[1].Key = "other", "other"
	wantLog(t, s, 0, of(1, 7, 0, 2))
	if b.Base != 0 || len(b.Records) != 2 {
		t.Fatalf("the batch is another one: %v", b)
	}
	c := of(1, 7, 2, 3)
	n, e := s.Append(c)
	if n != 2 || e != api.OK || !reflect.DeepEqual(c, of(1, 7, 2, 3)) {
		t.Fatalf("Append: %d, %d, %v", n, int(e), c)
	}
}

// B3, Cut

func TestCut(t *testing.T) {
	for _, most := range []int{256, big} {
		for _, c := range []struct {
			offset int
			cache  []int
		}{
			{10, []int{2, 0, 4, 4, 5, 8}},
			{9, []int{2, 0, 4, 4, 5, 8}},
			{8, []int{2, 0, 4, 4}},
			{7, []int{2, 0, 4, 4}},
			{5, []int{2, 0, 4, 4}},
			{4, []int{2, 0}},
			{1, []int{2, 0}},
			{0, nil},
		} {
			d := made(t, 100000)
			s, list := ten(t, d, most)
			table := s.Table()
			must(t, s.Cut(c.offset))
			if s.Table() != table {
				t.Fatal("the table is another one")
			}
			wantLog(t, s, 0, list[:c.offset]...)
			wantCache(t, s, c.cache...)
			wantCacheFile(t, d, c.cache...)
			wantTable(t, s.Table(), run(0, c.offset)...)
			wantNoFile(t, d, tableFile)
			// What was cut can be taken again, of a later epoch.
			more := appended(t, s, of(6, 7, c.offset, 1))
			wantLog(t, s, 0, append(list[:c.offset:c.offset], more...)...)
			wantCache(t, s, append(c.cache, 6, c.offset)...)
			wantAsk(t, s, 7, 0, c.offset, 1, c.offset, api.OK)
		}
	}
}

// Amid a batch the whole of it is gone, and what goes with it: the cut is at Next then.
func TestCutAmidABatch(t *testing.T) {
	for offset := 4; offset < 8; offset++ {
		d := made(t, 100000)
		s := opened(t, d, big)
		list := appended(t, s, of(1, 7, 0, 4), of(2, 7, 4, 4), of(3, 7, 8, 4))
		must(t, s.Cut(offset))
		wantLog(t, s, 0, list[0])
		wantCache(t, s, 1, 0)
		wantCacheFile(t, d, 1, 0)
		wantTable(t, s.Table(), lying{7, 0, 0, 4, 0})
		wantAsk(t, s, 7, 0, 4, 4, -1, api.OK)
	}
}

func TestCutRefused(t *testing.T) {
	d := made(t, 100000)
	s, _ := ten(t, d, big)
	must(t, s.Delete(3))
	for _, offset := range []int{2, 0, -1, 11, math.MaxInt, math.MinInt} {
		wantUnchanged(t, d, s, "Cut", api.ErrRange, func() api.Errno { return s.Cut(offset) })
	}
	must(t, s.Cut(3))
	wantLog(t, s, 3)
	wantCache(t, s)
	wantTable(t, s.Table(), run(0, 3)...)
}

// A cut needs no room: neither on a full disk nor among too many files.
func TestCutOnAFullDisk(t *testing.T) {
	d := made(t, 100000)
	s, list := ten(t, d, big)
	crowd(t, d, api.MaxFiles-1)
	stuff(t, d, 0)
	must(t, s.Cut(5))
	wantLog(t, s, 0, list[:5]...)
	wantCache(t, s, 2, 0, 4, 4)
	wantCacheFile(t, d, 2, 0, 4, 4)
	wantTable(t, s.Table(), run(0, 5)...)
}

// A start amid a batch is one that only others can have written: the cut takes the batch away, and the log begins anew.
func TestCutAtAStartAmidABatch(t *testing.T) {
	d := made(t, 100000)
	s := opened(t, d, big)
	appended(t, s, of(1, 7, 0, 4), of(2, 8, 0, 4))
	must(t, s.Sync(), d.Replace(metaFile, "2 2\n"))
	s = opened(t, d, big)
	must(t, s.Cut(3))
	wantLog(t, s, 2)
	wantCache(t, s, 1, 0)
	wantTable(t, s.Table(), lying{7, 0, 0, 4, 0})
}

// B3, Delete

func TestDelete(t *testing.T) {
	for _, most := range []int{256, big} {
		for _, c := range []struct {
			offset int
			cache  []int
			first  int // of the sequences that are noted still
		}{
			{0, []int{2, 0, 4, 4, 5, 8}, 0},
			{1, []int{2, 1, 4, 4, 5, 8}, 0},
			{3, []int{2, 3, 4, 4, 5, 8}, 0},
			{4, []int{4, 4, 5, 8}, 0},
			{5, []int{4, 5, 5, 8}, 0},
			{7, []int{4, 7, 5, 8}, 2},
			{8, []int{5, 8}, 3},
			{9, []int{5, 9}, 4},
			{10, []int{5, 10}, 5},
		} {
			d := made(t, 100000)
			s, list := ten(t, d, most)
			table := s.Table()
			must(t, s.Delete(c.offset))
			if s.Table() != table {
				t.Fatal("the table is another one")
			}
			wantLog(t, s, c.offset, list[c.offset:]...)
			if n := s.Log().Next(); n != 10 {
				t.Fatalf("Next: %d", n)
			}
			wantCache(t, s, c.cache...)
			wantCacheFile(t, d, c.cache...)
			wantTable(t, s.Table(), run(c.first, 10)...)
			// It was kept ahead of the deletion.
			wantTableFile(t, d, run(0, 10)...)
			for seq := 5; seq < 10; seq++ {
				wantAsk(t, s, 7, 0, seq, 1, seq, api.OK)
			}
			d.Crash(nil)
			s = opened(t, d, most)
			wantLog(t, s, c.offset, list[c.offset:]...)
			wantTable(t, s.Table(), run(0, 10)...)
			wantTableFile(t, d, run(0, 10)...)
		}
	}
}

// The second deletion keeps the table that the first one left.
func TestDeleteKeepsTheTableAnew(t *testing.T) {
	d := made(t, 100000)
	s, _ := ten(t, d, big)
	must(t, s.Delete(8))
	appended(t, s, of(5, 8, 0, 2))
	must(t, s.Delete(9))
	wantTableFile(t, d, append(run(3, 10), lying{8, 0, 0, 2, 10})...)
	wantTable(t, s.Table(), append(run(4, 10), lying{8, 0, 0, 2, 10})...)
}

// The table is kept ahead of what the log says, also if that is an error; nothing else is changed then.
func TestDeleteRefusedByTheLog(t *testing.T) {
	d := made(t, 100000)
	s := opened(t, d, big)
	appended(t, s, of(1, 7, 0, 1), of(1, 7, 1, 3), of(2, 7, 4, 2))
	must(t, s.Delete(1))
	notes := []lying{{7, 0, 0, 1, 0}, {7, 0, 1, 3, 1}, {7, 0, 4, 2, 4}}
	for i, offset := range []int{0, -1, 2, 3, 5, 7, math.MaxInt, math.MinInt} {
		must(t, d.Remove(tableFile))
		before := told(s)
		wantErr(t, "Delete", s.Delete(offset), api.ErrRange)
		if told(s) != before {
			t.Fatalf("%d: the store told\n%s\nnow it tells\n%s", i, before, told(s))
		}
		wantTableFile(t, d, notes...)
		wantUnchanged(t, d, s, "Delete once more", api.ErrRange, func() api.Errno { return s.Delete(offset) })
	}
	// The start itself, and the end, are places.
	must(t, s.Delete(1), s.Delete(6))
	wantLog(t, s, 6)
}

func TestDeleteWithoutRoomForTheTable(t *testing.T) {
	d := made(t, 100000)
	s, list := ten(t, d, big)
	size := len(s.Table().Keep())
	stuff(t, d, size-1)
	for _, offset := range []int{4, -1, 11} {
		wantUnchanged(t, d, s, "Delete", api.ErrFull, func() api.Errno { return s.Delete(offset) })
	}
	d.Remove("stuff")
	crowd(t, d, api.MaxFiles)
	for _, offset := range []int{4, -1, 11} {
		wantUnchanged(t, d, s, "Delete", api.ErrMany, func() api.Errno { return s.Delete(offset) })
	}
	// Room for the table, and none for what the log keeps.
	must(t, d.Remove("crowd0"))
	before := told(s)
	wantErr(t, "Delete", s.Delete(4), api.ErrMany)
	if told(s) != before {
		t.Fatalf("the store told\n%s\nnow it tells\n%s", before, told(s))
	}
	wantTableFile(t, d, run(0, 10)...)
	must(t, d.Remove("crowd1"), s.Delete(4))
	wantLog(t, s, 4, list[4:]...)
}

// The log has deleted, and does not go back: that the cache finds no room is passed over.
func TestDeleteWithoutRoomForTheCache(t *testing.T) {
	d := made(t, 100000)
	s := opened(t, d, big)
	list := appended(t, s, of(2, 7, 0, 1), of(2, 7, 1, 63), of(2, 7, 64, 1))
	must(t, s.Sync(), s.Delete(1))
	wantCache(t, s, 2, 1)
	// The log's start and its high watermark have a digit more each; the epoch's offset a byte.
	stuff(t, d, 2)
	must(t, s.Delete(64))
	wantLog(t, s, 64, list[2:]...)
	wantCache(t, s, 2, 1)
	wantCacheFile(t, d, 2, 1)
	must(t, d.Remove("stuff"), s.Delete(64))
	wantCache(t, s, 2, 64)
}

// B3, Begin

// leaders is a table as another one tells it.
func leaders() []lying {
	return []lying{{3, 1, 0, 2, 5}, {9, 0, 0, 1, 20}, {9, 0, 1, 4, 21}, {9, 4, 0, 1, 29}, {12, 0, 7, 5, 30}, {12, 0, 12, 1, 35}}
}

func TestBegin(t *testing.T) {
	for _, most := range []int{256, big} {
		for _, c := range []struct{ offset, notes int }{{0, 0}, {5, 0}, {6, 1}, {10, 1}, {20, 1}, {21, 2}, {22, 3}, {29, 3}, {30, 4}, {31, 5}, {36, 6}, {api.MaxOffset, 6}} {
			d := made(t, 100000)
			s, _ := ten(t, d, most)
			before := s.Table()
			must(t, s.Begin(c.offset, tableOf(leaders()...).Keep()))
			if s.Table() == before {
				t.Fatal("the table is that ahead")
			}
			wantTable(t, before, run(0, 10)...)
			wantBegun := func() {
				t.Helper()
				wantLog(t, s, c.offset)
				if l := s.Log(); l.Safe() != c.offset || l.Saved() != c.offset {
					t.Fatalf("Safe %d, Saved %d", l.Safe(), l.Saved())
				}
				wantCache(t, s)
				wantCacheFile(t, d)
				wantTable(t, s.Table(), leaders()[:c.notes]...)
				wantTableFile(t, d, leaders()[:c.notes]...)
			}
			wantBegun()
			d.Crash(nil)
			s = opened(t, d, most)
			wantBegun()
			if c.offset < api.MaxOffset {
				list := appended(t, s, of(1, 7, 10, 1))
				wantLog(t, s, c.offset, list...)
				wantCache(t, s, 1, c.offset)
				wantAsk(t, s, 7, 0, 10, 1, c.offset, api.OK)
			}
		}
	}
}

func TestBeginOfAStoreWithoutEpochsWritesNone(t *testing.T) {
	d := made(t, 1000)
	s := opened(t, d, 256)
	must(t, s.Begin(0, dedup.New().Keep()))
	wantNoFile(t, d, cacheFile)
	wantTableFile(t, d)
	wantLog(t, s, 0)
}

// The old table is another one: what is done to the store is not seen there, nor the other way round.
func TestATableThatABeginMadeIsAnother(t *testing.T) {
	s, _ := ten(t, made(t, 100000), big)
	old := s.Table()
	must(t, s.Begin(30, tableOf(leaders()...).Keep()))
	appended(t, s, of(1, 9, 0, 1), of(1, 7, 0, 1))
	must(t, s.Delete(31), s.Cut(31))
	wantTable(t, old, run(0, 10)...)
	now := s.Table().Keep()
	old.Cut(0)
	if s.Table().Keep() != now {
		t.Fatal("the store's table goes with the old one")
	}
}

func TestBeginRefused(t *testing.T) {
	d := made(t, 100000)
	s, _ := ten(t, d, big)
	must(t, s.Delete(2))
	right := tableOf(leaders()...).Keep()
	torn := right[:len(right)-1]
	for _, c := range []struct {
		offset int
		pids   string
		want   api.Errno
	}{
		{-1, right, api.ErrArg},
		{api.MaxOffset + 1, right, api.ErrArg},
		{math.MinInt, right, api.ErrArg},
		{math.MaxInt, right, api.ErrArg},
		{-1, "", api.ErrArg},
		{30, "", api.ErrShort},
		{30, "abc", api.ErrShort},
		{30, "junk", api.ErrSum},
		{30, torn, api.ErrSum},
		{30, right + "x", api.ErrSum},
		{30, sealed("\x02"), api.ErrForm},
		{30, sealed("\x00\x00"), api.ErrForm},
		{30, sealed(""), api.ErrForm},
	} {
		wantUnchanged(t, d, s, "Begin", c.want, func() api.Errno { return s.Begin(c.offset, c.pids) })
	}
	stuff(t, d, 0)
	wantUnchanged(t, d, s, "the offset ahead of the room", api.ErrArg, func() api.Errno { return s.Begin(-1, right) })
	wantUnchanged(t, d, s, "the form ahead of the room", api.ErrSum, func() api.Errno { return s.Begin(30, "junk") })
}

// sealed is bytes with a right checksum ahead.
func sealed(rest string) string {
	n := wire.Crc(rest)
	return string([]byte{byte(n >> 24), byte(n >> 16), byte(n >> 8), byte(n)}) + rest
}

func TestBeginWithoutRoomForTheTable(t *testing.T) {
	d := made(t, 100000)
	s, _ := ten(t, d, big)
	kept := tableOf(leaders()[:4]...).Keep()
	stuff(t, d, len(kept)-1)
	wantUnchanged(t, d, s, "Begin", api.ErrFull, func() api.Errno { return s.Begin(30, tableOf(leaders()...).Keep()) })
	d.Remove("stuff")
	crowd(t, d, api.MaxFiles)
	wantUnchanged(t, d, s, "Begin", api.ErrMany, func() api.Errno { return s.Begin(30, tableOf(leaders()...).Keep()) })
}

// The table's file is the new one then, all else as it was.
func TestBeginRefusedByTheLog(t *testing.T) {
	for _, full := range []bool{true, false} {
		d := made(t, 100000)
		s, list := ten(t, d, big)
		kept := tableOf(leaders()[:4]...).Keep()
		want := api.ErrMany
		if full {
			want = api.ErrFull
			stuff(t, d, len(kept)+len("30 30\n")-1)
		} else {
			crowd(t, d, api.MaxFiles-1)
		}
		before, table := told(s), s.Table()
		wantErr(t, "Begin", s.Begin(30, tableOf(leaders()...).Keep()), want)
		if told(s) != before || s.Table() != table {
			t.Fatalf("the store told\n%s\nnow it tells\n%s", before, told(s))
		}
		wantTableFile(t, d, leaders()[:4]...)
		wantCacheFile(t, d, 2, 0, 4, 4, 5, 8)
		wantNoFile(t, d, metaFile)
		d.Remove("stuff")
		d.Remove("crowd0")
		// Opened anew it has nothing of that table: its log begins ahead of all notes.
		s = opened(t, d, big)
		wantLog(t, s, 0, list...)
		wantTable(t, s.Table(), run(0, 10)...)
	}
}

// B4

func TestItsParts(t *testing.T) {
	d := made(t, 100000)
	s := opened(t, d, 256)
	log, cache, table := s.Log(), s.Cache(), s.Table()
	if log == nil || cache == nil || table == nil {
		t.Fatal("a part is nil")
	}
	list := appended(t, s, of(1, 7, 0, 1), of(2, 7, 1, 1), of(2, 7, 2, 1))
	must(t, s.Sync(), s.Delete(1), s.Cut(2))
	if s.Log() != log || s.Cache() != cache || s.Table() != table {
		t.Fatal("a part is another one")
	}
	got, e := log.Read(1, 1000)
	if e != api.OK || !reflect.DeepEqual(got, list[1:2]) || cache.Last() != 2 {
		t.Fatalf("the log: %v, %d; the last epoch: %d", got, int(e), cache.Last())
	}
	must(t, log.Save(2))
	if s.Log().Saved() != 2 {
		t.Fatalf("Saved: %d", s.Log().Saved())
	}
	must(t, s.Begin(9, dedup.New().Keep()))
	if s.Log() != log || s.Cache() != cache || s.Table() == table || log.Next() != 9 || cache.Last() != -1 {
		t.Fatal("behind Begin")
	}
	// What a part tells shares nothing with the store.
	appended(t, s, of(3, 7, 0, 2))
	all := s.Log().All()
	all[0].Epoch, all[0].Records[0].Value = 9, "other"
	s.Cache().All()[0].Term = 9
	wantLog(t, s, 9, at(9, of(3, 7, 0, 2)))
	wantCache(t, s, 3, 9)
}

// Two stores on one disk have nothing in common, also if one's name begins as the other's.
func TestStoresOnOneDisk(t *testing.T) {
	d := made(t, 100000)
	var stores []*store.Store
	prefixes := []string{"p", "p-0", "p-0000000000", "q"}
	for i, prefix := range prefixes {
		s, e := store.Open(d, prefix, 256)
		must(t, e)
		stores = append(stores, s)
		for seq := range 3 {
			appended(t, s, of(i, 7+i, seq, 1))
		}
		must(t, s.Sync(), s.Delete(1+i%2))
	}
	must(t, stores[0].Begin(50, dedup.New().Keep()))
	d.Crash(nil)
	for i, prefix := range prefixes[1:] {
		s, e := store.Open(d, prefix, 256)
		must(t, e)
		if told(s) != told(stores[1+i]) || s.Cache().Last() != 1+i {
			t.Fatalf("%s told\n%s\nnow it tells\n%s", prefix, told(stores[1+i]), told(s))
		}
		wantAsk(t, s, 8+i, 0, 0, 1, 0, api.OK)
	}
}

// P1: a store that Open did not make has nothing, and no room.
func TestAStoreThatOpenDidNotMake(t *testing.T) {
	var s store.Store
	if n, e := s.Append(of(1, 7, 0, 1)); n != 0 || e == api.OK {
		t.Fatalf("Append: %d, %d", n, int(e))
	}
	empty := dedup.New().Keep()
	for _, e := range []api.Errno{s.Take(of(1, 7, 0, 1)), s.Take(of(-1, 7, 0, 1)), s.Sync(), s.Cut(0), s.Cut(1), s.Delete(0), s.Begin(0, empty), s.Begin(5, empty), s.Begin(0, "")} {
		if e == api.OK {
			t.Fatal("a call was not refused")
		}
	}
	if s.Log() == nil || s.Cache().Last() != -1 || s.Log().Next() != 0 || len(s.Log().All()) != 0 || s.Table() != s.Table() {
		t.Fatal("it has something")
	}
	wantAsk(t, &s, 7, 0, 0, 1, -1, api.OK)
}
