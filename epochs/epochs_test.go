package epochs_test

import (
	"encoding/binary"
	"hash/crc32"
	"math"
	"slices"
	"strconv"
	"strings"
	"testing"

	"logboom/api"
	"logboom/disk"
	"logboom/epochs"
)

const most = api.MaxOffset

// pair is an epoch, and the offset at which it began.
type pair [2]int

func made(t *testing.T, size int) *disk.Disk {
	t.Helper()
	d, e := disk.New(size)
	if e != api.OK {
		t.Fatalf("New(%d): %v", size, e)
	}
	return d
}

// must ends the test at the first call that is refused.
func must(t *testing.T, es ...api.Errno) {
	t.Helper()
	for i, e := range es {
		if e != api.OK {
			t.Fatalf("call %d: %v", i, e)
		}
	}
}

func opened(t *testing.T, d *disk.Disk, name string) *epochs.Cache {
	t.Helper()
	c, e := epochs.Open(d, name)
	if c == nil || e != api.OK {
		t.Fatalf("Open(%q): %v", name, e)
	}
	return c
}

// begun is a cache in the file e, with those entries.
func begun(t *testing.T, d *disk.Disk, list ...pair) *epochs.Cache {
	t.Helper()
	c := opened(t, d, "e")
	for _, x := range list {
		must(t, c.Begin(x[0], x[1]))
	}
	wantAll(t, c, list...)
	return c
}

// row is so many entries, from an epoch and an offset on, each ten apart.
func row(n, epoch, offset int) []pair {
	var list []pair
	for i := range n {
		list = append(list, pair{epoch + 10*i, offset + 10*i})
	}
	return list
}

// ints is numbers one behind the other, written by another hand than the program's.
func ints(list ...int) string {
	var b []byte
	for _, n := range list {
		b = binary.AppendVarint(b, int64(n))
	}
	return string(b)
}

// sealed is a file with its checksum.
func sealed(rest string) string {
	sum := crc32.Checksum([]byte(rest), crc32.MakeTable(crc32.Castagnoli))
	return string(binary.BigEndian.AppendUint32(nil, sum)) + rest
}

// written is the file of those entries.
func written(list ...pair) string {
	rest := ints(len(list))
	for _, x := range list {
		rest += ints(x[:]...)
	}
	return sealed(rest)
}

func wantErr(t *testing.T, what string, got, want api.Errno) {
	t.Helper()
	if got != want {
		t.Fatalf("%s: got %d, want %d", what, int(got), int(want))
	}
}

func wantAll(t *testing.T, c *epochs.Cache, list ...pair) {
	t.Helper()
	all := c.All()
	ok := len(all) == len(list)
	for i := 0; ok && i < len(all); i++ {
		ok = all[i] == api.Entry{Term: list[i][0], Index: list[i][1]}
	}
	if !ok {
		t.Fatalf("All: got %.300v, want %.300v", all, list)
	}
	last := -1
	if len(list) > 0 {
		last = list[len(list)-1][0]
	}
	if c.Last() != last {
		t.Fatalf("Last: got %d, want %d", c.Last(), last)
	}
}

func wantEnd(t *testing.T, c *epochs.Cache, epoch, next, wantEpoch, wantEnd int) {
	t.Helper()
	if a, b := c.End(epoch, next); a != wantEpoch || b != wantEnd {
		t.Fatalf("End(%d, %d): got %d, %d, want %d, %d", epoch, next, a, b, wantEpoch, wantEnd)
	}
}

// wantFile asks for the bytes of e, all safe.
func wantFile(t *testing.T, d *disk.Disk, want string) {
	t.Helper()
	got, e := d.Read("e")
	if e != api.OK || got != want || d.Synced("e") != len(want) {
		t.Fatalf("the file: got %.300q, %d, %d safe, want %.300q", got, int(e), d.Synced("e"), want)
	}
}

// wantKept asks for the entries, in the cache, in its file, and in a cache that is opened behind a crash.
func wantKept(t *testing.T, d *disk.Disk, c *epochs.Cache, list ...pair) {
	t.Helper()
	wantAll(t, c, list...)
	wantFile(t, d, written(list...))
	d = d.Clone()
	d.Crash([]int{1, 2, 3})
	wantAll(t, opened(t, d, "e"), list...)
}

// picture is all that a disk tells.
func picture(d *disk.Disk) string {
	b := strings.Builder{}
	for _, name := range d.Names() {
		bytes, _ := d.Read(name)
		b.WriteString(strconv.Quote(name) + " " + strconv.Quote(bytes) + " " + strconv.Itoa(d.Synced(name)) + "\n")
	}
	return b.String() + strconv.Itoa(d.Free())
}

// stuff leaves so many bytes free.
func stuff(t *testing.T, d *disk.Disk, free int) {
	t.Helper()
	must(t, d.Replace("stuff", strings.Repeat("s", d.Free()+d.Size("stuff")-free)))
}

// crowd has so many files on the disk.
func crowd(t *testing.T, d *disk.Disk, files int) {
	t.Helper()
	for i := 0; len(d.Names()) < files; i++ {
		must(t, d.Append("crowd"+strconv.Itoa(i), ""))
	}
}

// step is a call that changes entries.
type step struct {
	what string
	call func(c *epochs.Cache) api.Errno
}

func begin(epoch, offset int) step {
	return step{"Begin(" + strconv.Itoa(epoch) + ", " + strconv.Itoa(offset) + ")", func(c *epochs.Cache) api.Errno { return c.Begin(epoch, offset) }}
}

func cut(offset int) step {
	return step{"Cut(" + strconv.Itoa(offset) + ")", func(c *epochs.Cache) api.Errno { return c.Cut(offset) }}
}

func remove(offset int) step {
	return step{"Delete(" + strconv.Itoa(offset) + ")", func(c *epochs.Cache) api.Errno { return c.Delete(offset) }}
}

// wantLeft asks that a call leaves the entries as they are, tells want, and writes nothing: what others wrote into the file stays.
func wantLeft(t *testing.T, s step, want api.Errno, list ...pair) {
	t.Helper()
	d := made(t, 10000)
	c := begun(t, d, list...)
	must(t, d.Replace("e", "others"))
	before := picture(d)
	wantErr(t, s.what, s.call(c), want)
	wantAll(t, c, list...)
	if got := picture(d); got != before {
		t.Fatalf("%s of %.200v: the disk was\n%s\nis\n%s", s.what, list, before, got)
	}
}

// wantTurned asks that a call is OK, and makes other entries of those, in the cache and in the file.
func wantTurned(t *testing.T, s step, list []pair, want ...pair) {
	t.Helper()
	d := made(t, 10000)
	c := begun(t, d, list...)
	wantErr(t, s.what, s.call(c), api.OK)
	if slices.Equal(list, want) {
		t.Fatalf("%s is asked to turn nothing", s.what)
	}
	wantKept(t, d, c, want...)
}

// P7.2

func TestBeginWithoutEntries(t *testing.T) {
	for _, x := range []pair{{0, 0}, {0, 7}, {1, 0}, {5, 3}, {0, most}, {most, 0}, {most, most}} {
		wantTurned(t, begin(x[0], x[1]), nil, x)
	}
}

func TestBeginRefusesOtherNumbers(t *testing.T) {
	for _, n := range []int{-1, most + 1, -most, math.MinInt, math.MaxInt, 1 << 32, -1 << 32} {
		for _, list := range [][]pair{nil, {{4, 10}, {6, 20}}, {{most, most}}} {
			wantLeft(t, begin(n, 30), api.ErrArg, list...)
			wantLeft(t, begin(7, n), api.ErrArg, list...)
			wantLeft(t, begin(n, n), api.ErrArg, list...)
			// Also where the other number would be fenced, or left as it is.
			wantLeft(t, begin(6, n), api.ErrArg, list...)
			wantLeft(t, begin(0, n), api.ErrArg, list...)
			wantLeft(t, begin(n, 0), api.ErrArg, list...)
		}
	}
	// And ahead of there being too many.
	wantLeft(t, begin(most+1, 5000), api.ErrArg, row(200, 0, 0)...)
	wantLeft(t, begin(5000, most+1), api.ErrArg, row(200, 0, 0)...)
}

func TestBeginOfTheLastEpoch(t *testing.T) {
	list := []pair{{4, 10}, {6, 20}}
	for _, offset := range []int{20, 21, 30, most} {
		wantLeft(t, begin(6, offset), api.OK, list...)
	}
	for _, offset := range []int{19, 11, 10, 9, 0} {
		wantLeft(t, begin(6, offset), api.ErrFenced, list...)
	}
	wantLeft(t, begin(0, 0), api.OK, pair{0, 0})
	wantLeft(t, begin(0, 9), api.OK, pair{0, 0})
	wantLeft(t, begin(most, most), api.OK, pair{most, most})
	wantLeft(t, begin(most, most-1), api.ErrFenced, pair{most, most})
}

func TestBeginOfALowerEpoch(t *testing.T) {
	list := []pair{{4, 10}, {6, 20}}
	for _, epoch := range []int{0, 3, 4, 5} {
		for _, offset := range []int{0, 9, 10, 11, 19, 20, 21, most} {
			wantLeft(t, begin(epoch, offset), api.ErrFenced, list...)
		}
	}
	// Fenced ahead of there being too many.
	wantLeft(t, begin(1989, 5000), api.ErrFenced, row(200, 0, 0)...)
}

func TestBeginOfAHigherEpoch(t *testing.T) {
	list := []pair{{4, 10}, {6, 20}, {7, 30}}
	for _, epoch := range []int{8, 9, most} {
		for _, c := range []struct{ offset, left int }{{0, 0}, {9, 0}, {10, 0}, {11, 1}, {19, 1}, {20, 1}, {21, 2}, {29, 2}, {30, 2}, {31, 3}, {most, 3}} {
			wantTurned(t, begin(epoch, c.offset), list, append(slices.Clone(list[:c.left]), pair{epoch, c.offset})...)
		}
	}
}

func TestBeginOfTheTwoHundredth(t *testing.T) {
	list := row(200, 0, 0)
	wantTurned(t, begin(list[199][0], list[199][1]), list[:199], list...)
	for _, offset := range []int{1991, 2000, most} {
		wantLeft(t, begin(1991, offset), api.ErrMany, list...)
	}
	// The last epoch's own, also behind its offset, is none more.
	wantLeft(t, begin(1990, 1990), api.OK, list...)
	wantLeft(t, begin(1990, 2500), api.OK, list...)
	// Those that begin at the offset make room.
	wantTurned(t, begin(1991, 1990), list, append(slices.Clone(list[:199]), pair{1991, 1990})...)
	wantTurned(t, begin(1991, 1981), list, append(slices.Clone(list[:199]), pair{1991, 1981})...)
	wantTurned(t, begin(1991, 1980), list, append(slices.Clone(list[:198]), pair{1991, 1980})...)
	wantTurned(t, begin(1991, 0), list, pair{1991, 0})
}

// P7.3

func TestCutAndDeleteRefuseOtherNumbers(t *testing.T) {
	for _, n := range []int{-1, most + 1, -most, math.MinInt, math.MaxInt, 1 << 32, -1 << 32} {
		for _, list := range [][]pair{nil, {{4, 10}, {6, 20}}, {{most, most}}, {{0, 0}}} {
			wantLeft(t, cut(n), api.ErrArg, list...)
			wantLeft(t, remove(n), api.ErrArg, list...)
		}
	}
}

func TestCut(t *testing.T) {
	list := []pair{{4, 10}, {6, 20}, {7, 30}}
	for _, c := range []struct{ offset, left int }{{0, 0}, {9, 0}, {10, 0}, {11, 1}, {19, 1}, {20, 1}, {21, 2}, {29, 2}, {30, 2}} {
		wantTurned(t, cut(c.offset), list, list[:c.left]...)
	}
	for _, offset := range []int{31, 32, 1000, most} {
		wantLeft(t, cut(offset), api.OK, list...)
	}
	for _, offset := range []int{0, 1, most} {
		wantLeft(t, cut(offset), api.OK)
	}
	wantTurned(t, cut(0), []pair{{0, 0}})
	wantTurned(t, cut(most), []pair{{0, 0}, {1, most}}, pair{0, 0})
	wantTurned(t, cut(1990), row(200, 0, 0), row(199, 0, 0)...)
}

func TestDelete(t *testing.T) {
	list := []pair{{4, 10}, {6, 20}, {7, 30}}
	for _, offset := range []int{0, 1, 9, 10} {
		wantLeft(t, remove(offset), api.OK, list...)
	}
	for _, offset := range []int{11, 15, 19} {
		wantTurned(t, remove(offset), list, pair{4, offset}, list[1], list[2])
	}
	wantTurned(t, remove(20), list, list[1:]...)
	for _, offset := range []int{21, 29} {
		wantTurned(t, remove(offset), list, pair{6, offset}, list[2])
	}
	wantTurned(t, remove(30), list, list[2])
	// The last one does not end.
	for _, offset := range []int{31, 32, 1000, most} {
		wantTurned(t, remove(offset), list, pair{7, offset})
	}
	for _, offset := range []int{0, 1, most} {
		wantLeft(t, remove(offset), api.OK)
	}
	wantLeft(t, remove(0), api.OK, pair{0, 0})
	wantLeft(t, remove(most), api.OK, pair{0, most})
	wantLeft(t, remove(30), api.OK, list[2])
	wantTurned(t, remove(1985), row(200, 0, 0), pair{1980, 1985}, pair{1990, 1990})
}

// P7.4

func TestEndWithoutEntries(t *testing.T) {
	c := begun(t, made(t, 1000))
	for _, epoch := range []int{0, -1, 1, most, math.MinInt, math.MaxInt} {
		for _, next := range []int{0, 7, -7, math.MaxInt} {
			wantEnd(t, c, epoch, next, -1, -1)
		}
	}
}

func TestEnd(t *testing.T) {
	c := begun(t, made(t, 1000), pair{1, 0}, pair{5, 10}, pair{6, 30})
	for _, next := range []int{40, 30, 29, 0, -1, most, most + 1, math.MinInt, math.MaxInt} {
		for _, epoch := range []int{0, -1, -2, math.MinInt} {
			wantEnd(t, c, epoch, next, -1, -1)
		}
		for _, epoch := range []int{1, 2, 4} {
			wantEnd(t, c, epoch, next, 1, 10)
		}
		wantEnd(t, c, 5, next, 5, 30)
		for _, epoch := range []int{6, 7, 1000, most, most + 1, math.MaxInt} {
			wantEnd(t, c, epoch, next, 6, next)
		}
	}
	c = begun(t, made(t, 1000), pair{0, 5})
	wantEnd(t, c, -1, 9, -1, -1)
	wantEnd(t, c, 0, 9, 0, 9)
	wantEnd(t, c, 1, 9, 0, 9)
}

func TestEndAmongTwoHundred(t *testing.T) {
	list := row(200, 3, 5)
	c := begun(t, made(t, 10000), list...)
	for epoch := range 2100 {
		wantEpoch, end := -1, -1
		for i, x := range list {
			if x[0] <= epoch {
				wantEpoch, end = x[0], 7777
				if i < 199 {
					end = list[i+1][1]
				}
			}
		}
		wantEnd(t, c, epoch, 7777, wantEpoch, end)
	}
}

func TestAskingChangesNothing(t *testing.T) {
	list := []pair{{1, 0}, {5, 10}, {6, 30}}
	ask := step{"asking", func(c *epochs.Cache) api.Errno {
		c.Last()
		c.End(5, 40)
		c.All()
		return api.OK
	}}
	wantLeft(t, ask, api.OK, list...)
	wantLeft(t, ask, api.OK)
}

// P3: what All answered is nobody else's.
func TestAllIsNew(t *testing.T) {
	d := made(t, 1000)
	list := []pair{{1, 0}, {5, 10}, {6, 30}}
	c := begun(t, d, list...)
	all := c.All()
	for i := range all {
		all[i] = api.Entry{Term: 99, Index: 99, Data: "x"}
	}
	_ = append(all[:0:cap(all)], api.Entry{Term: 98})
	wantKept(t, d, c, list...)
	// And stays what it was when the cache turns.
	all = c.All()
	was := slices.Clone(all)
	must(t, c.Delete(5), c.Cut(30), c.Begin(7, 11), c.Cut(0), c.Begin(8, 0))
	if !slices.Equal(all, was) {
		t.Fatalf("All was %v, is %v", was, all)
	}
}

// Caches of one disk do not share what they keep.
func TestCachesStandByThemselves(t *testing.T) {
	d := made(t, 1000)
	one, other := begun(t, d, row(3, 1, 1)...), opened(t, d, "f")
	must(t, other.Begin(9, 9))
	wantKept(t, d, one, row(3, 1, 1)...)
	wantAll(t, other, pair{9, 9})
	twin := opened(t, d, "e")
	must(t, twin.Cut(11), twin.Begin(40, 11))
	wantAll(t, one, row(3, 1, 1)...)
	wantKept(t, d, twin, pair{1, 1}, pair{40, 11})
	must(t, one.Begin(50, 22))
	wantKept(t, d, one, pair{1, 1}, pair{11, 11}, pair{21, 21}, pair{50, 22})
}

func TestACacheThatOpenDidNotMake(t *testing.T) {
	var c epochs.Cache
	wantAll(t, &c)
	wantEnd(t, &c, 5, 9, -1, -1)
	wantErr(t, "Begin", c.Begin(1, 0), api.ErrArg)
	wantErr(t, "Begin of a wrong one", c.Begin(-1, 0), api.ErrArg)
	must(t, c.Cut(0), c.Delete(9))
	wantErr(t, "Cut of a wrong one", c.Cut(-1), api.ErrArg)
	wantErr(t, "Delete of a wrong one", c.Delete(-1), api.ErrArg)
	wantAll(t, &c)
}

func TestTheChaptersExamples(t *testing.T) {
	d := made(t, 1000)
	c := opened(t, d, "e")
	for i, x := range []struct {
		epoch, offset int
		want          api.Errno
	}{{1, 0, api.OK}, {3, 10, api.OK}, {3, 12, api.OK}, {2, 20, api.ErrFenced}, {3, 5, api.ErrFenced}} {
		wantErr(t, "call "+strconv.Itoa(i), c.Begin(x.epoch, x.offset), x.want)
	}
	wantKept(t, d, c, pair{1, 0}, pair{3, 10})
	must(t, c.Begin(5, 10))
	wantKept(t, d, c, pair{1, 0}, pair{5, 10})
	must(t, c.Begin(6, 30))
	wantEnd(t, c, 5, 40, 5, 30)
	wantEnd(t, c, 9, 40, 6, 40)
	wantEnd(t, c, 4, 40, 1, 10)
	wantEnd(t, c, 0, 40, -1, -1)
	must(t, c.Delete(12))
	wantKept(t, d, c, pair{5, 12}, pair{6, 30})
	must(t, c.Cut(20))
	wantKept(t, d, c, pair{5, 12})
	must(t, c.Cut(0))
	wantKept(t, d, c)
}
