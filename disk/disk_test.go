package disk_test

import (
	"math"
	"slices"
	"strconv"
	"strings"
	"testing"

	"logboom/api"
	"logboom/disk"
)

func made(t *testing.T, size int) *disk.Disk {
	t.Helper()
	d, e := disk.New(size)
	if e != api.OK || d == nil {
		t.Fatalf("New(%d): %v", size, e)
	}
	return d
}

// must ends the test at the first call that is refused.
func must(t *testing.T, es ...api.Errno) {
	t.Helper()
	for i, e := range es {
		if e != api.OK {
			t.Fatalf("call %d: %v", i, e)
		}
	}
}

func wantErr(t *testing.T, what string, got, want api.Errno) {
	t.Helper()
	if got != want {
		t.Errorf("%s: got %d, want %d", what, int(got), int(want))
	}
}

// wantFile asks for a file's bytes, and how many of them are safe.
func wantFile(t *testing.T, d *disk.Disk, name, bytes string, safe int) {
	t.Helper()
	b, e := d.Read(name)
	if e != api.OK || b != bytes {
		t.Errorf("Read(%q): got %.80q, %d, want %.80q", name, b, int(e), bytes)
	}
	if n := d.Size(name); n != len(bytes) {
		t.Errorf("Size(%q): got %d, want %d", name, n, len(bytes))
	}
	if n := d.Synced(name); n != safe {
		t.Errorf("Synced(%q): got %d, want %d", name, n, safe)
	}
}

func wantNames(t *testing.T, d *disk.Disk, names ...string) {
	t.Helper()
	if l := d.Names(); !slices.Equal(l, names) {
		t.Errorf("Names: got %q, want %q", l, names)
	}
}

func wantFree(t *testing.T, d *disk.Disk, free int) {
	t.Helper()
	if n := d.Free(); n != free {
		t.Errorf("Free: got %d, want %d", n, free)
	}
}

// picture is all that a disk tells of itself.
func picture(d *disk.Disk) string {
	var s strings.Builder
	s.WriteString("free " + strconv.Itoa(d.Free()))
	for _, name := range d.Names() {
		b, _ := d.Read(name)
		s.WriteString("\n" + name + " " + strconv.Itoa(d.Size(name)) + " " + strconv.Itoa(d.Synced(name)) + " " + strconv.Quote(b))
	}
	return s.String()
}

func numbered(i int) string { return "f" + strconv.Itoa(i) }

// crowded is a disk with as many files as there may be, all empty.
func crowded(t *testing.T, size int) *disk.Disk {
	t.Helper()
	d := made(t, size)
	for i := range api.MaxFiles {
		must(t, d.Append(numbered(i), ""))
	}
	return d
}

// D1

func TestNewTakesItsSizes(t *testing.T) {
	for _, size := range []int{1, 2, 10, 16777215, 16777216} {
		d := made(t, size)
		wantFree(t, d, size)
		wantNames(t, d)
	}
	for _, size := range []int{0, -1, 16777217, math.MaxInt, math.MinInt} {
		if d, e := disk.New(size); d != nil || e != api.ErrArg {
			t.Errorf("New(%d): got %v, %d", size, d, int(e))
		}
	}
}

func TestSizesOfWhatIsNotThere(t *testing.T) {
	d := made(t, 10)
	must(t, d.Replace("a", "xyz"))
	for _, name := range []string{"b", "", "A", "a ", strings.Repeat("a", 65)} {
		if d.Size(name) != 0 || d.Synced(name) != 0 {
			t.Errorf("%q: %d, %d", name, d.Size(name), d.Synced(name))
		}
	}
	wantNames(t, d, "a")
}

func TestNamesRiseByTheirBytes(t *testing.T) {
	d := made(t, 10)
	rising := []string{"-", "-a", ".", "0", "10", "9", "a", "a-", "a.", "a0", "aa", "b", "z"}
	for i := range rising {
		must(t, d.Append(rising[(i*5+3)%len(rising)], ""))
	}
	wantNames(t, d, rising...)
}

func TestNamesAreANewList(t *testing.T) {
	d := made(t, 10)
	must(t, d.Append("a", ""), d.Append("b", ""))
	l := d.Names()
	l[0] = "z"
	_ = append(l[:1], "y")
	wantNames(t, d, "a", "b")
}

func TestFreeIsSizeLessAllBytes(t *testing.T) {
	d := made(t, 20)
	must(t, d.Append("a", "12345"))
	wantFree(t, d, 15)
	must(t, d.Replace("b", "123"))
	wantFree(t, d, 12)
	must(t, d.Replace("b", "1"))
	wantFree(t, d, 14)
	must(t, d.Cut("a", 2))
	wantFree(t, d, 17)
	must(t, d.Rename("a", "b"))
	wantFree(t, d, 18)
	d.Crash(nil)
	wantFree(t, d, 20)
	must(t, d.Append("b", "1234"), d.Sync("b"))
	wantFree(t, d, 16)
	must(t, d.Remove("b"))
	wantFree(t, d, 20)
}

// D2

func TestWhichNamesAreNames(t *testing.T) {
	d := made(t, 10)
	for _, name := range []string{"a", "-", ".", "0", "a-b.9z", "..", strings.Repeat("a", 64)} {
		wantErr(t, "Append "+strconv.Quote(name), d.Append(name, ""), api.OK)
		wantErr(t, "Replace "+strconv.Quote(name), d.Replace(name, ""), api.OK)
		wantErr(t, "Rename "+strconv.Quote(name), d.Rename(name, name), api.OK)
		must(t, d.Remove(name))
	}
	for _, name := range []string{"", "A", "a b", "a/b", "a_", "aZ", "\x00", "a\n", "ä", "\xff", strings.Repeat("a", 65), strings.Repeat("a", 100000)} {
		wantErr(t, "Append "+strconv.Quote(name), d.Append(name, ""), api.ErrArg)
		wantErr(t, "Replace "+strconv.Quote(name), d.Replace(name, ""), api.ErrArg)
		wantErr(t, "Rename "+strconv.Quote(name), d.Rename("a", name), api.ErrArg)
	}
	wantNames(t, d)
}

func TestWhichBytesANameHas(t *testing.T) {
	const right = "abcdefghijklmnopqrstuvwxyz0123456789-."
	for c := range 256 {
		want := api.ErrArg
		if strings.IndexByte(right, byte(c)) >= 0 {
			want = api.OK
		}
		for _, name := range []string{string([]byte{byte(c)}), string([]byte{'a', byte(c)}), string([]byte{byte(c), 'a'})} {
			wantErr(t, strconv.Quote(name), made(t, 10).Append(name, "x"), want)
		}
	}
}

func TestAppendStandsBehindAndIsNotSafe(t *testing.T) {
	d := made(t, 100)
	must(t, d.Append("a", "one"))
	wantFile(t, d, "a", "one", 0)
	must(t, d.Append("a", "two"))
	wantFile(t, d, "a", "onetwo", 0)
	must(t, d.Sync("a"), d.Append("a", "\x00\xff"))
	wantFile(t, d, "a", "onetwo\x00\xff", 6)
	must(t, d.Append("b", ""))
	wantFile(t, d, "b", "", 0)
	must(t, d.Replace("c", "safe"), d.Append("c", "not"))
	wantFile(t, d, "c", "safenot", 4)
}

func TestAppendToAFullDisk(t *testing.T) {
	d := made(t, 5)
	must(t, d.Replace("a", "123"))
	wantErr(t, "more than FREE", d.Append("a", "456"), api.ErrFull)
	wantFile(t, d, "a", "12345", 3)
	wantFree(t, d, 0)
	wantErr(t, "nothing is free", d.Append("a", "6"), api.ErrFull)
	wantFile(t, d, "a", "12345", 3)
	wantErr(t, "a new file", d.Append("b", "6"), api.ErrFull)
	wantFile(t, d, "b", "", 0)
	wantErr(t, "nothing to a new file", d.Append("c", ""), api.OK)
	wantErr(t, "nothing to an old one", d.Append("a", ""), api.OK)
	wantNames(t, d, "a", "b", "c")
}

func TestAppendOfJustWhatIsFree(t *testing.T) {
	d := made(t, 5)
	must(t, d.Append("a", "12"), d.Append("b", "345"))
	wantFree(t, d, 0)
	wantFile(t, d, "b", "345", 0)
}

func TestTheGreatestDiskFills(t *testing.T) {
	d := made(t, api.MaxDisk)
	all := strings.Repeat("x", api.MaxDisk)
	wantErr(t, "one more", d.Append("a", all+"y"), api.ErrFull)
	wantFile(t, d, "a", all, 0)
	wantFree(t, d, 0)
	wantErr(t, "one more at once", d.Replace("a", all+"y"), api.ErrFull)
	wantErr(t, "all at once", d.Replace("a", all), api.OK)
	wantFile(t, d, "a", all, api.MaxDisk)
}

func TestMany(t *testing.T) {
	d := crowded(t, 10)
	wantErr(t, "Append", d.Append("more", "x"), api.ErrMany)
	wantErr(t, "Append of nothing", d.Append("more", ""), api.ErrMany)
	wantErr(t, "Replace", d.Replace("more", "x"), api.ErrMany)
	wantErr(t, "no name", d.Append("More", "x"), api.ErrArg)
	wantErr(t, "no name", d.Replace("More", "x"), api.ErrArg)
	wantErr(t, "many ahead of full", d.Append("more", "12345678901"), api.ErrMany)
	wantErr(t, "many ahead of full", d.Replace("more", "12345678901"), api.ErrMany)
	if n := len(d.Names()); n != 256 {
		t.Errorf("%d files", n)
	}
	wantErr(t, "one that is there", d.Append("f0", "x"), api.OK)
	wantErr(t, "one that is there", d.Replace("f255", "x"), api.OK)
	wantErr(t, "Rename makes none", d.Rename("f1", "more"), api.OK)
	wantErr(t, "still many", d.Append("f1", ""), api.ErrMany)
	must(t, d.Remove("f2"))
	wantErr(t, "room again", d.Append("f1", ""), api.OK)
}

func TestSync(t *testing.T) {
	d := made(t, 10)
	wantErr(t, "none", d.Sync("a"), api.ErrNone)
	wantErr(t, "no name", d.Sync("A"), api.ErrNone)
	wantErr(t, "no name", d.Sync(""), api.ErrNone)
	must(t, d.Append("a", "12"), d.Append("b", "34"), d.Append("c", ""))
	must(t, d.Sync("a"), d.Sync("c"))
	wantFile(t, d, "a", "12", 2)
	wantFile(t, d, "b", "34", 0)
	wantFile(t, d, "c", "", 0)
	must(t, d.Append("a", "56"), d.Sync("a"), d.Sync("a"))
	wantFile(t, d, "a", "1256", 4)
}

func TestCut(t *testing.T) {
	for _, c := range []struct{ n, safe int }{{0, 0}, {1, 1}, {2, 2}, {3, 3}, {4, 3}, {5, 3}} {
		d := made(t, 10)
		must(t, d.Replace("a", "123"), d.Append("a", "45"), d.Cut("a", c.n))
		wantFile(t, d, "a", "12345"[:c.n], c.safe)
		wantFree(t, d, 10-c.n)
	}
}

func TestCutIsRefused(t *testing.T) {
	d := made(t, 10)
	must(t, d.Append("a", "123"), d.Append("empty", ""))
	for _, n := range []int{-1, 4, math.MinInt, math.MaxInt} {
		wantErr(t, "Cut to "+strconv.Itoa(n), d.Cut("a", n), api.ErrArg)
		wantErr(t, "none ahead of a wrong number", d.Cut("b", n), api.ErrNone)
	}
	wantErr(t, "none", d.Cut("b", 0), api.ErrNone)
	wantErr(t, "no name", d.Cut("", 0), api.ErrNone)
	wantErr(t, "an empty one", d.Cut("empty", 0), api.OK)
	wantErr(t, "an empty one", d.Cut("empty", 1), api.ErrArg)
	wantFile(t, d, "a", "123", 0)
}

func TestAppendBehindACut(t *testing.T) {
	d := made(t, 6)
	must(t, d.Replace("a", "123456"))
	before, _ := d.Read("a")
	must(t, d.Cut("a", 2))
	wantErr(t, "room of what was cut off", d.Append("a", "abcde"), api.ErrFull)
	wantFile(t, d, "a", "12abcd", 2)
	if before != "123456" {
		t.Errorf("what was read became %q", before)
	}
}

// D3

func TestReplace(t *testing.T) {
	d := made(t, 5)
	must(t, d.Replace("a", "123"))
	wantFile(t, d, "a", "123", 3)
	must(t, d.Append("a", "4"), d.Replace("a", "x"))
	wantFile(t, d, "a", "x", 1)
	must(t, d.Replace("a", ""))
	wantFile(t, d, "a", "", 0)
	wantNames(t, d, "a")
	must(t, d.Replace("b", ""))
	wantFile(t, d, "b", "", 0)
}

func TestReplaceCountsWhatTheFileHasAsRoom(t *testing.T) {
	d := made(t, 5)
	must(t, d.Append("a", "12"), d.Append("b", "34"))
	wantErr(t, "one too many", d.Replace("a", "wxyz"), api.ErrFull)
	wantFile(t, d, "a", "12", 0)
	wantErr(t, "a new file", d.Replace("c", "xy"), api.ErrFull)
	wantNames(t, d, "a", "b")
	wantErr(t, "just all", d.Replace("a", "xyz"), api.OK)
	wantFile(t, d, "a", "xyz", 3)
	wantFree(t, d, 0)
	wantErr(t, "on a full disk", d.Replace("b", "cd"), api.OK)
	wantErr(t, "nothing on a full disk", d.Replace("c", ""), api.OK)
}

func TestRename(t *testing.T) {
	d := made(t, 20)
	must(t, d.Replace("a", "123"), d.Append("a", "45"), d.Rename("a", "c"))
	wantNames(t, d, "c")
	wantFile(t, d, "c", "12345", 3)
	must(t, d.Replace("b", "gone"), d.Rename("c", "b"))
	wantNames(t, d, "b")
	wantFile(t, d, "b", "12345", 3)
	wantFree(t, d, 15)
	must(t, d.Append("c", "new"), d.Append("b", "67"))
	wantFile(t, d, "c", "new", 0)
	wantFile(t, d, "b", "1234567", 3)
}

func TestRenameToTheSameName(t *testing.T) {
	d := made(t, 20)
	must(t, d.Replace("a", "123"), d.Append("a", "45"), d.Rename("a", "a"))
	wantNames(t, d, "a")
	wantFile(t, d, "a", "12345", 3)
	wantErr(t, "what is not there", d.Rename("b", "b"), api.ErrNone)
	wantErr(t, "what is no name", d.Rename("B", "B"), api.ErrArg)
}

func TestRenameIsRefused(t *testing.T) {
	d := made(t, 20)
	must(t, d.Append("a", "1"))
	wantErr(t, "none", d.Rename("b", "c"), api.ErrNone)
	wantErr(t, "none, over one that is there", d.Rename("b", "a"), api.ErrNone)
	wantErr(t, "from no name", d.Rename("", "a"), api.ErrNone)
	wantErr(t, "to no name", d.Rename("a", ""), api.ErrArg)
	wantErr(t, "no name ahead of none", d.Rename("b", "B"), api.ErrArg)
	wantErr(t, "to 65 bytes", d.Rename("a", strings.Repeat("b", 65)), api.ErrArg)
	wantNames(t, d, "a")
	wantErr(t, "to 64 bytes", d.Rename("a", strings.Repeat("b", 64)), api.OK)
}

func TestRemoveAndRead(t *testing.T) {
	d := made(t, 20)
	must(t, d.Replace("a", "123"), d.Append("b", ""))
	must(t, d.Remove("a"))
	wantNames(t, d, "b")
	wantErr(t, "Remove", d.Remove("a"), api.ErrNone)
	wantErr(t, "Remove of no name", d.Remove("A"), api.ErrNone)
	for _, name := range []string{"a", "A", ""} {
		if b, e := d.Read(name); b != "" || e != api.ErrNone {
			t.Errorf("Read(%q): %q, %d", name, b, int(e))
		}
	}
	must(t, d.Append("a", "4"))
	wantFile(t, d, "a", "4", 0)
	must(t, d.Remove("b"), d.Remove("a"))
	wantNames(t, d)
	wantFree(t, d, 20)
}

// D4

func TestCrashKeepsByNumber(t *testing.T) {
	for _, c := range []struct {
		keep []int
		k    int
	}{
		{nil, 0}, {[]int{}, 0}, {[]int{0}, 0}, {[]int{1}, 1}, {[]int{2}, 2}, {[]int{3}, 3}, {[]int{4}, 0}, {[]int{7}, 3},
		{[]int{-1}, 0}, {[]int{-2}, 1}, {[]int{-4}, 3}, {[]int{-5}, 0}, {[]int{-6}, 1},
		{[]int{math.MaxInt}, 3}, {[]int{math.MinInt}, 3}, {[]int{1, 2, 3}, 1}, {[]int{0, 3}, 0},
	} {
		d := made(t, 10)
		must(t, d.Replace("a", "12"), d.Append("a", "345"))
		d.Crash(c.keep)
		wantFile(t, d, "a", "12345"[:2+c.k], 2+c.k)
		wantFree(t, d, 10-2-c.k)
	}
}

func TestCrashCountsTheFilesThatHaveLooseBytes(t *testing.T) {
	d := made(t, 100)
	must(t, d.Append("e", "eee"), d.Replace("d", "ddd"), d.Append("c", "ccc"), d.Append("b", ""), d.Append("a", "aaa"))
	must(t, d.Append("f", "fff"))
	d.Crash([]int{1, 2, 3})
	wantFile(t, d, "a", "a", 1)
	wantFile(t, d, "b", "", 0)
	wantFile(t, d, "c", "cc", 2)
	wantFile(t, d, "d", "ddd", 3)
	wantFile(t, d, "e", "eee", 3)
	wantFile(t, d, "f", "", 0)
	wantNames(t, d, "a", "b", "c", "d", "e", "f")
}

func TestCrashAgainLosesNothing(t *testing.T) {
	d := made(t, 100)
	must(t, d.Append("a", "12345"), d.Append("b", "123"))
	d.Crash([]int{3, 9})
	before := picture(d)
	d.Crash(nil)
	d.Crash([]int{1, 1, 1})
	if after := picture(d); after != before {
		t.Errorf("got %s\nwant %s", after, before)
	}
}

func TestCrashLeavesItsListAlone(t *testing.T) {
	d := made(t, 10)
	must(t, d.Append("a", "123"), d.Append("b", "123"))
	whole := []int{-2, 3}
	d.Crash(whole[:1])
	if !slices.Equal(whole, []int{-2, 3}) {
		t.Error(whole)
	}
	wantFile(t, d, "a", "1", 1)
	wantFile(t, d, "b", "", 0)
}

func TestCrashOfNoFiles(t *testing.T) {
	d := made(t, 10)
	d.Crash([]int{1, 2, 3})
	wantNames(t, d)
	wantFree(t, d, 10)
}

func TestAppendBehindACrash(t *testing.T) {
	d := made(t, 10)
	must(t, d.Replace("a", "12"), d.Append("a", "345"))
	d.Crash([]int{1})
	must(t, d.Append("a", "xy"))
	wantFile(t, d, "a", "123xy", 3)
}

func TestCloneIsJustSo(t *testing.T) {
	d := made(t, 50)
	must(t, d.Replace("a", "12"), d.Append("a", "34"), d.Append("b", "x"), d.Append("c", ""))
	c := d.Clone()
	if picture(c) != picture(d) {
		t.Errorf("got %s\nwant %s", picture(c), picture(d))
	}
	wantErr(t, "the clone's SIZE", c.Append("c", strings.Repeat("x", 46)), api.ErrFull)
}

func TestCloneIsItsOwn(t *testing.T) {
	changes := map[string]func(d *disk.Disk) api.Errno{
		"Append":  func(d *disk.Disk) api.Errno { return d.Append("a", "z") },
		"new":     func(d *disk.Disk) api.Errno { return d.Append("n", "z") },
		"Sync":    func(d *disk.Disk) api.Errno { return d.Sync("a") },
		"Cut":     func(d *disk.Disk) api.Errno { return max(d.Cut("a", 0), d.Append("a", "zzz")) },
		"Replace": func(d *disk.Disk) api.Errno { return d.Replace("a", "z") },
		"Rename":  func(d *disk.Disk) api.Errno { return d.Rename("a", "b") },
		"Remove":  func(d *disk.Disk) api.Errno { return d.Remove("a") },
		"Crash":   func(d *disk.Disk) api.Errno { d.Crash(nil); return api.OK },
	}
	for what, change := range changes {
		d := made(t, 50)
		must(t, d.Replace("a", "12"), d.Append("a", "34"), d.Append("a", "5"), d.Append("b", "x"))
		c := d.Clone()
		before := picture(d)
		must(t, change(c))
		if picture(d) != before {
			t.Errorf("%s of the clone changed the disk", what)
		}
		c = d.Clone()
		must(t, change(d))
		if picture(c) != before {
			t.Errorf("%s of the disk changed the clone", what)
		}
	}
}

func TestCloneAndDiskAppendApart(t *testing.T) {
	d := made(t, 50)
	must(t, d.Append("a", "123"), d.Append("a", "4"))
	c := d.Clone()
	must(t, d.Append("a", "d"), c.Append("a", "c"))
	wantFile(t, d, "a", "1234d", 0)
	wantFile(t, c, "a", "1234c", 0)
}

// D5

func TestErrorsChangeNothing(t *testing.T) {
	d := crowded(t, 10)
	must(t, d.Replace("f0", "12"), d.Append("f0", "34"), d.Append("f1", "5"))
	before := picture(d)
	for what, c := range map[string]struct{ got, want api.Errno }{
		"Append, no name":     {d.Append("", "x"), api.ErrArg},
		"Append, many":        {d.Append("a", "x"), api.ErrMany},
		"Sync":                {d.Sync("a"), api.ErrNone},
		"Cut, none":           {d.Cut("a", 0), api.ErrNone},
		"Cut, below 0":        {d.Cut("f0", -1), api.ErrArg},
		"Cut, above":          {d.Cut("f0", 5), api.ErrArg},
		"Replace, no name":    {d.Replace("F0", "x"), api.ErrArg},
		"Replace, many":       {d.Replace("a", "x"), api.ErrMany},
		"Replace, full":       {d.Replace("f0", "1234567890"), api.ErrFull},
		"Replace, full again": {d.Replace("f2", "123456"), api.ErrFull},
		"Rename, no name":     {d.Rename("f0", "F0"), api.ErrArg},
		"Rename, none":        {d.Rename("a", "f0"), api.ErrNone},
		"Remove":              {d.Remove("a"), api.ErrNone},
	} {
		wantErr(t, what, c.got, c.want)
	}
	if after := picture(d); after != before {
		t.Errorf("got %s\nwant %s", after, before)
	}
}

// A disk that New did not make has no room: its calls must not panic (P1).
func TestADiskOfNoSize(t *testing.T) {
	d := &disk.Disk{}
	c := d.Clone()
	wantNames(t, c)
	d.Crash([]int{1})
	wantErr(t, "Sync", d.Sync("a"), api.ErrNone)
	wantErr(t, "Replace", d.Replace("a", "x"), api.ErrFull)
	wantErr(t, "Append", d.Append("a", "x"), api.ErrFull)
	wantFile(t, d, "a", "", 0)
	wantFree(t, d, 0)
}

// The chapter's examples.

func TestExamples(t *testing.T) {
	for _, c := range []struct {
		keep []int
		want string
	}{{nil, "hello"}, {[]int{4}, "hello1"}} {
		d := made(t, 10)
		must(t, d.Append("a", "hello"), d.Sync("a"), d.Append("a", "12"))
		d.Crash(c.keep)
		wantFile(t, d, "a", c.want, len(c.want))
	}
	d := made(t, 3)
	wantErr(t, "Append", d.Append("a", "hello"), api.ErrFull)
	wantFile(t, d, "a", "hel", 0)
	d = made(t, 3)
	wantErr(t, "Replace", d.Replace("a", "hello"), api.ErrFull)
	wantNames(t, d)
	wantErr(t, "Rename", d.Rename("a", "a"), api.ErrNone)
	wantErr(t, "Append", d.Append("A", "x"), api.ErrArg)
}
