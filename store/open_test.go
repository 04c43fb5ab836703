package store_test

import (
	"math"
	"slices"
	"strings"
	"testing"

	"logboom/api"
	"logboom/dedup"
	"logboom/disk"
	"logboom/epochs"
	"logboom/store"
)

// wantRefused asks that Open is refused, and that the disk is as it was.
func wantRefused(t *testing.T, d *disk.Disk, prefix string, most int, want api.Errno) {
	t.Helper()
	before := picture(d)
	s, e := store.Open(d, prefix, most)
	if s != nil || e != want {
		t.Fatalf("Open(%.80q, %d): got %v, %d, want %d", prefix, most, s, int(e), int(want))
	}
	if picture(d) != before {
		t.Fatalf("Open(%.80q, %d): the disk was\n%.500s\nis\n%.500s", prefix, most, before, picture(d))
	}
}

// cacheText is what the file of a cache has, of epochs and offsets.
func cacheText(t *testing.T, list ...int) string {
	t.Helper()
	d := made(t, 10000)
	c, e := epochs.Open(d, "e")
	must(t, e)
	for i := 0; i < len(list); i += 2 {
		must(t, c.Begin(list[i], list[i+1]))
	}
	if len(list) == 0 {
		must(t, c.Begin(0, 0), c.Cut(0))
	}
	text, e := d.Read("e")
	must(t, e)
	return text
}

// B1, a new one

func TestOpenANewOne(t *testing.T) {
	for _, most := range []int{256, 1000000} {
		for _, prefix := range []string{"p", "part-12", "-", strings.Repeat("9", 40)} {
			d := made(t, 1000)
			s, e := store.Open(d, prefix, most)
			if s == nil || e != api.OK {
				t.Fatalf("Open: %d", int(e))
			}
			wantLog(t, s, 0)
			wantCache(t, s)
			wantTable(t, s.Table())
			// Neither the cache nor the table is written.
			if names := d.Names(); !slices.Equal(names, []string{prefix + "-0000000000.log"}) {
				t.Fatalf("Names: %q", names)
			}
			appended(t, s, of(1, 7, 0, 1))
			must(t, s.Delete(1))
			if names := d.Names(); !slices.Equal(names, []string{prefix + "-0000000000.log", prefix + ".epochs", prefix + ".meta", prefix + ".pids"}) {
				t.Fatalf("Names: %q", names)
			}
		}
	}
}

// B1, errors

func TestOpenTellsTheLogsErrors(t *testing.T) {
	d := made(t, 1000)
	// These would be refused, too, but later.
	must(t, d.Replace(cacheFile, "e"), d.Replace(tableFile, "junk"))
	for _, prefix := range []string{"", "P", "p.q", "p ", "p/", "pä", strings.Repeat("a", 41), strings.Repeat("a", 100000)} {
		wantRefused(t, d, prefix, 256, api.ErrArg)
	}
	for _, most := range []int{255, 1000001, 0, -1, math.MaxInt, math.MinInt} {
		wantRefused(t, d, "p", most, api.ErrArg)
	}
	for _, text := range []string{"", "1 0\n", "0 0", "junk"} {
		must(t, d.Replace(metaFile, text))
		wantRefused(t, d, "p", 256, api.ErrForm)
	}
	must(t, d.Remove(metaFile))
	crowd(t, d, api.MaxFiles)
	wantRefused(t, d, "p", 256, api.ErrMany)
}

func TestOpenTellsTheCachesErrors(t *testing.T) {
	d := made(t, 100000)
	ten(t, d, 256)
	must(t, d.Replace(tableFile, ""))
	for _, c := range []struct {
		text string
		want api.Errno
	}{
		{"", api.ErrShort},
		{"abc", api.ErrShort},
		{"abcde", api.ErrSum},
		{cacheText(t, 2, 0) + "x", api.ErrSum},
		{sealed(""), api.ErrForm},
		{sealed("\x02"), api.ErrForm},
		{sealed("\x04\x04\x00\x02\x08"), api.ErrForm}, // epochs that fall
	} {
		must(t, d.Replace(cacheFile, c.text))
		wantRefused(t, d, "p", 256, c.want)
	}
	// Without a cache's error the table's is told.
	must(t, d.Replace(cacheFile, cacheText(t, 2, 0)))
	wantRefused(t, d, "p", 256, api.ErrShort)
}

func TestOpenTellsTheTablesErrors(t *testing.T) {
	d := made(t, 100000)
	ten(t, d, 256)
	right := tableOf(leaders()...).Keep()
	for _, c := range []struct {
		text string
		want api.Errno
	}{
		{"", api.ErrShort},
		{"abc", api.ErrShort},
		{"abcd", api.ErrSum},
		{right[:len(right)-1], api.ErrSum},
		{right + "x", api.ErrSum},
		{sealed(""), api.ErrForm},
		{sealed("\x02\x00"), api.ErrForm},
		{sealed("\x00\x00"), api.ErrForm},
	} {
		must(t, d.Replace(tableFile, c.text))
		wantRefused(t, d, "p", 256, c.want)
	}
	must(t, d.Replace(tableFile, right))
	opened(t, d, 256)
}

// B1, the cache

func TestOpenCutsTheCacheAtTheLogsEnd(t *testing.T) {
	d := made(t, 100000)
	s := opened(t, d, big)
	list := appended(t, s, of(2, 7, 0, 2))
	must(t, s.Sync())
	appended(t, s, of(4, 7, 2, 2), of(5, 7, 4, 1))
	wantCacheFile(t, d, 2, 0, 4, 2, 5, 4)
	d.Crash(nil)
	s = opened(t, d, big)
	wantLog(t, s, 0, list...)
	wantCache(t, s, 2, 0)
	wantCacheFile(t, d, 2, 0)
	// So an epoch between them may come, as if the lost ones had not been.
	appended(t, s, of(3, 7, 2, 1))
	wantCache(t, s, 2, 0, 3, 2)
}

// An epoch that began where the log ends had no records there.
func TestOpenCutsAnEpochThatBeganAtTheEnd(t *testing.T) {
	d := made(t, 100000)
	s := opened(t, d, big)
	appended(t, s, of(2, 7, 0, 2))
	must(t, s.Delete(2))
	wantCache(t, s, 2, 2)
	s = opened(t, d, big)
	wantCache(t, s)
	wantCacheFile(t, d)
	// At the end is cut, ahead of it is not.
	d = made(t, 100000)
	ten(t, d, big)
	must(t, d.Replace(cacheFile, cacheText(t, 2, 0, 4, 4, 5, 8, 6, 9, 7, 10, 8, 11)))
	s = opened(t, d, big)
	wantCache(t, s, 2, 0, 4, 4, 5, 8, 6, 9)
	wantCacheFile(t, d, 2, 0, 4, 4, 5, 8, 6, 9)
}

func TestOpenLearnsEpochsOfTheLog(t *testing.T) {
	for _, c := range []struct {
		what       string
		file, want []int
	}{
		{"none is known", nil, []int{2, 0, 4, 4, 5, 8}},
		{"the first", []int{2, 0}, []int{2, 0, 4, 4, 5, 8}},
		{"the first, begun later", []int{2, 3}, []int{2, 3, 4, 4, 5, 8}},
		{"the middle one, begun earlier", []int{4, 2}, []int{4, 2, 5, 8}},
		{"the middle one, begun later", []int{4, 6}, []int{4, 6, 5, 8}},
		{"the last, begun too early", []int{5, 1}, []int{5, 1}},
		{"an epoch between them", []int{2, 0, 3, 6}, []int{2, 0, 4, 4, 5, 8}}, // what begins behind is gone
		{"a later epoch", []int{2, 0, 9, 3}, []int{2, 0, 9, 3}},
		{"a later epoch, at the end", []int{2, 0, 9, 10}, []int{2, 0, 4, 4, 5, 8}},
	} {
		d := made(t, 100000)
		_, list := ten(t, d, 256)
		must(t, d.Replace(cacheFile, cacheText(t, c.file...)))
		s := opened(t, d, 256)
		if got := s.Cache().All(); len(got)*2 != len(c.want) {
			t.Errorf("%s: %v", c.what, got)
		}
		wantCache(t, s, c.want...)
		wantCacheFile(t, d, c.want...)
		wantLog(t, s, 0, list...)
	}
	d := made(t, 100000)
	ten(t, d, 256)
	must(t, d.Remove(cacheFile))
	wantCache(t, opened(t, d, 256), 2, 0, 4, 4, 5, 8)
}

// Only of what lies from the start on.
func TestOpenLearnsNoEpochsOfWhatWasDeleted(t *testing.T) {
	d := made(t, 100000)
	s, _ := ten(t, d, big)
	must(t, s.Delete(5), d.Remove(cacheFile))
	s = opened(t, d, big)
	wantCache(t, s, 4, 5, 5, 8)
	wantCacheFile(t, d, 4, 5, 5, 8)
}

func TestOpenPassesOverAnEpochThatTheCacheRefuses(t *testing.T) {
	// No room at all: none is known, but the log and the table are there.
	d := made(t, 100000)
	_, list := ten(t, d, big)
	must(t, d.Remove(cacheFile))
	stuff(t, d, 0)
	s := opened(t, d, big)
	wantCache(t, s)
	wantLog(t, s, 0, list...)
	wantTable(t, s.Table(), run(0, 10)...)
	// Room for the first alone.
	stuff(t, d, len(cacheText(t, 2, 0)))
	s = opened(t, d, big)
	wantCache(t, s, 2, 0)
	wantTable(t, s.Table(), run(0, 10)...)
	// Too many files.
	must(t, d.Remove(cacheFile), d.Remove("stuff"))
	crowd(t, d, api.MaxFiles)
	s = opened(t, d, big)
	wantCache(t, s)
	wantTable(t, s.Table(), run(0, 10)...)
	// Too many epochs.
	d = made(t, 100000)
	s = opened(t, d, big)
	for i := range 150 {
		appended(t, s, of(i, 7, i, 1))
	}
	must(t, s.Delete(100))
	for i := 150; i < 210; i++ {
		appended(t, s, of(i, 7, i, 1))
	}
	must(t, s.Sync(), d.Replace(metaFile, "0 0\n"), d.Remove(cacheFile))
	s = opened(t, d, big)
	if n := len(s.Cache().All()); n != 200 || s.Cache().Last() != 199 || s.Log().Start() != 0 {
		t.Fatalf("%d epochs, the last %d", n, s.Cache().Last())
	}
	wantAsk(t, s, 7, 0, 209, 1, 209, api.OK)
}

// B1, the table

func TestOpenNotesWhatLiesInTheLog(t *testing.T) {
	d := made(t, 100000)
	s := opened(t, d, 256)
	list := appended(t, s, of(1, 7, 0, 2), of(1, 0, 0, 3), of(1, 8, 0, 1), of(2, 7, 2, 4))
	must(t, s.Sync())
	appended(t, s, of(2, 8, 1, 1))
	d.Crash(nil)
	s = opened(t, d, 256)
	wantLog(t, s, 0, list...)
	wantTable(t, s.Table(), lying{7, 0, 0, 2, 0}, lying{8, 0, 0, 1, 5}, lying{7, 0, 2, 4, 6})
	wantNoFile(t, d, tableFile)
	wantAsk(t, s, 8, 0, 1, 1, -1, api.OK)
}

// What was kept of places from the start on may be of a time gone by; what lies ahead of it stays.
func TestOpenTakesOfTheTableJustWhatIsAheadOfTheStart(t *testing.T) {
	d := made(t, 100000)
	s, list := ten(t, d, big)
	must(t, s.Delete(4))
	stale := []lying{
		{7, 0, 0, 1, 0}, {7, 0, 1, 3, 1}, // as it was, but for how it was sent
		{8, 3, 0, 1, 3},                      // of a producer that has nothing in the log
		{9, 0, 0, 4, 4},                      // at the start, where another one's lies
		{7, 0, 4, 2, 5}, {7, 1, 0, 64, 1000}, // a later epoch, behind the end
		{12, 0, 0, 1, api.MaxOffset},
	}
	must(t, d.Replace(tableFile, tableOf(stale...).Keep()))
	s = opened(t, d, big)
	wantLog(t, s, 4, list[4:]...)
	wantTable(t, s.Table(), append(append(slices.Clone(stale[:2]), run(4, 10)...), stale[2])...)
	wantAsk(t, s, 7, 0, 9, 1, 9, api.OK)
	wantAsk(t, s, 7, 1, 0, 1, -1, api.OK)
	wantAsk(t, s, 9, 0, 0, 4, -1, api.OK)
	wantAsk(t, s, 8, 3, 0, 1, 3, api.OK)
	// The file is as it was: only Delete and Begin keep.
	wantTableFile(t, d, stale...)
}

// Without a start nothing of the file is taken.
func TestOpenTakesNothingOfTheTableWhereNothingIsDeleted(t *testing.T) {
	d := made(t, 100000)
	ten(t, d, big)
	must(t, d.Replace(tableFile, tableOf(leaders()...).Keep()))
	wantTable(t, opened(t, d, big).Table(), run(0, 10)...)
}

// A batch that is cut, and another in its place: the table that was kept ahead of that says what is so no more.
func TestOpenBehindACutOfWhatWasKept(t *testing.T) {
	d := made(t, 100000)
	s, list := ten(t, d, big)
	must(t, s.Delete(2), s.Cut(6))
	more := appended(t, s, of(6, 8, 0, 1), of(6, 7, 6, 3))
	must(t, s.Sync())
	wantTableFile(t, d, run(0, 10)...)
	d.Crash(nil)
	s = opened(t, d, big)
	wantLog(t, s, 2, append(list[2:6:6], more...)...)
	wantTable(t, s.Table(), append(run(0, 6), lying{8, 0, 0, 1, 6}, lying{7, 0, 6, 3, 7})...)
	wantAsk(t, s, 7, 0, 6, 1, -1, api.ErrDuplicate)
	wantAsk(t, s, 7, 0, 6, 3, 7, api.OK)
}

// Of a log whose end a crash took away the table keeps what lies ahead of the start.
func TestOpenBehindADeletionOfWhatWasNotSafe(t *testing.T) {
	d := made(t, 100000)
	s := opened(t, d, big)
	appended(t, s, of(2, 7, 0, 1), of(3, 7, 1, 1))
	must(t, s.Delete(2))
	d.Crash(nil)
	s = opened(t, d, big)
	wantLog(t, s, 2)
	wantCache(t, s)
	wantTable(t, s.Table(), run(0, 2)...)
	wantAsk(t, s, 7, 0, 1, 1, 1, api.OK)
	wantAsk(t, s, 7, 0, 2, 1, -1, api.OK)
}

// A start amid a batch is one that only others can have written: the batch is all there, and noted.
func TestOpenWithAStartAmidABatch(t *testing.T) {
	for _, kept := range []bool{true, false} {
		d := made(t, 100000)
		s := opened(t, d, big)
		list := appended(t, s, of(1, 7, 0, 4), of(2, 7, 4, 4))
		must(t, s.Sync(), s.Delete(0), d.Replace(metaFile, "2 2\n"), d.Remove(cacheFile))
		if !kept {
			must(t, d.Remove(tableFile))
		}
		s = opened(t, d, big)
		if s.Log().Start() != 2 || len(s.Log().All()) != 2 || end(list[1]) != s.Log().Next() {
			t.Fatalf("Start %d, %v", s.Log().Start(), s.Log().All())
		}
		wantCache(t, s, 1, 0, 2, 4)
		wantTable(t, s.Table(), lying{7, 0, 0, 4, 0}, lying{7, 0, 4, 4, 4})
	}
}

// Opened again and again it is the same, and so is the disk.
func TestOpenTwice(t *testing.T) {
	for _, most := range []int{256, big} {
		d := made(t, 100000)
		s, _ := ten(t, d, most)
		must(t, s.Delete(5))
		appended(t, s, of(8, 9, 0, 3))
		must(t, s.Sync())
		log, cache := s.Log().All(), s.Cache().All()
		for range 3 {
			before := picture(d)
			s = opened(t, d, most)
			if picture(d) != before {
				t.Fatalf("the disk was\n%s\nis\n%s", before, picture(d))
			}
			wantLog(t, s, 5, log...)
			if !slices.Equal(s.Cache().All(), cache) {
				t.Fatalf("the cache: %v, want %v", s.Cache().All(), cache)
			}
			wantTable(t, s.Table(), append(run(0, 10), lying{9, 0, 0, 3, 10})...)
		}
	}
}

// Whatever stands in the files: Open ends, and what it tells is the first of the parts' errors.
func TestOpenOfAnyFiles(t *testing.T) {
	texts := []string{"", "a", "junk", "\x00\x00\x00\x00\x00", sealed("\x00"), sealed("\x02"), sealed("\x00\x00"), cacheText(t, 2, 0, 4, 4), cacheText(t, 9, api.MaxOffset), tableOf(leaders()...).Keep(), dedup.New().Keep(), "5 7\n", "0 0\n", "1000000000 1000000000\n"}
	for _, meta := range texts {
		for _, cache := range texts {
			for _, table := range texts {
				d := made(t, 100000)
				ten(t, d, 256)
				must(t, d.Replace(metaFile, meta), d.Replace(cacheFile, cache), d.Replace(tableFile, table))
				p := &paper{d: d.Clone(), most: 256}
				want := p.open()
				s, e := store.Open(d, "p", 256)
				if e != want || (s == nil) != (e != api.OK) {
					t.Fatalf("Open with %q, %q, %q: got %d, want %d", meta, cache, table, int(e), int(want))
				}
				if e == api.OK {
					p.wantAs(t, d, s, "Open")
				}
			}
		}
	}
}
