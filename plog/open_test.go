package plog_test

import (
	"math"
	"math/rand"
	"strconv"
	"strings"
	"testing"

	"logboom/api"
	"logboom/disk"
	"logboom/plog"
)

// wantRefused asks that Open is refused, and that the disk is as it was.
func wantRefused(t *testing.T, d *disk.Disk, prefix string, most int, want api.Errno) {
	t.Helper()
	before := picture(d)
	l, e := plog.Open(d, prefix, most)
	if l != nil || e != want {
		t.Fatalf("Open(%.80q, %d): got %v, %d, want %d", prefix, most, l, int(e), int(want))
	}
	if picture(d) != before {
		t.Fatalf("Open(%.80q, %d): the disk was\n%.500s\nis\n%.500s", prefix, most, before, picture(d))
	}
}

// put has a segment's file with those batches, all safe.
func put(t *testing.T, d *disk.Disk, base int, list ...api.Batch) {
	t.Helper()
	must(t, d.Replace(file("p", base), bytesOf(t, list...)))
}

// L1, what is handed in

func TestOpenTakesItsPrefixes(t *testing.T) {
	for _, prefix := range []string{"p", "z", "a", "0", "9", "-", "part-12", strings.Repeat("a", 39), strings.Repeat("9", 40)} {
		d := made(t, 1000)
		l := opened(t, d, prefix, 256)
		wantNumbers(t, l, 0, 0, 0, 0)
		wantAll(t, l)
		if names := d.Names(); len(names) != 1 || names[0] != prefix+"-0000000000.log" {
			t.Fatalf("Names: %q", names)
		}
		must(t, l.Begin(api.MaxOffset))
		if names := d.Names(); len(names) != 2 || names[0] != prefix+"-1000000000.log" || names[1] != prefix+".meta" {
			t.Fatalf("Names: %q", names)
		}
		wantMeta(t, d, prefix, "1000000000 1000000000\n")
	}
}

func TestOpenRefusesOtherPrefixes(t *testing.T) {
	d := made(t, 1000)
	must(t, d.Replace("p.meta", "rubbish"), d.Replace("p-0000000000.log", "rubbish"))
	for _, prefix := range []string{"", "P", "p.q", "p.", ".", "p q", "p_q", "p/q", "pä", "p\x00", "p\n", "{", "`", ":", "A", "Z", strings.Repeat("a", 41), strings.Repeat("a", 100000)} {
		wantRefused(t, d, prefix, 256, api.ErrArg)
	}
	for c := range 256 {
		if b := byte(c); !('a' <= b && b <= 'z' || '0' <= b && b <= '9' || b == '-') {
			wantRefused(t, d, "p"+string([]byte{b}), 256, api.ErrArg)
		}
	}
	// The argument's error ahead of the meta's.
	for _, most := range []int{255, 1000001, 0, -1, -256, math.MaxInt, math.MinInt} {
		wantRefused(t, d, "p", most, api.ErrArg)
	}
	wantRefused(t, d, "p", 256, api.ErrForm)
	for _, most := range []int{256, 257, 999999, 1000000} {
		opened(t, made(t, 1000), "p", most)
	}
}

func TestOpenAmongTooManyFiles(t *testing.T) {
	d := made(t, 1000)
	crowd(t, d, api.MaxFiles)
	wantRefused(t, d, "p", 256, api.ErrMany)
	must(t, d.Remove("crowd0"))
	opened(t, d, "p", 256)
	// A file that is removed leaves its place to the new one.
	must(t, d.Rename(file("p", 0), file("p", 5)))
	opened(t, d, "p", 256)
	wantFiles(t, d, "p", 0)
	// A full disk has room for an empty file.
	d = made(t, 1000)
	stuff(t, d, 0)
	opened(t, d, "p", 256)
	wantFiles(t, d, "p", 0)
}

// L1, the meta

func TestOpenReadsTheMeta(t *testing.T) {
	for _, c := range []struct {
		text        string
		start, high int
	}{
		{"0 0\n", 0, 0},
		{"0 3\n", 0, 3},
		{"2 3\n", 2, 3},
		{"3 3\n", 3, 3},
		{"5 6\n", 5, 6},
		{"6 6\n", 6, 6},
		{"6 1000000000\n", 6, 6}, // HIGH is at most NEXT
		{"0 7\n", 0, 6},
		{"7 7\n", 7, 7}, // NEXT is below START: all is removed
		{"7 9\n", 7, 7},
		{"10 1000\n", 10, 10},
		{"1000000000 1000000000\n", 1000000000, 1000000000},
		{"999999999 1000000000\n", 999999999, 999999999},
	} {
		d := made(t, 10000)
		put(t, d, 0, batch(0, 2), batch(2, 4))
		must(t, d.Replace("p.meta", c.text))
		l := opened(t, d, "p", 256)
		wantMeta(t, d, "p", c.text)
		if c.start > 6 {
			wantNumbers(t, l, c.start, c.start, c.start, c.high)
			wantFiles(t, d, "p", c.start)
			wantAll(t, l)
		} else {
			wantNumbers(t, l, c.start, 6, 6, c.high)
			wantFiles(t, d, "p", 0)
		}
	}
}

func TestOpenRefusesOtherMetas(t *testing.T) {
	d := made(t, 10000)
	put(t, d, 0, batch(0, 9))
	must(t, d.Append(file("p", 0), "torn"), d.Append(file("p", 100), ""))
	for _, text := range []string{
		"", "\n", " ", " \n", "0", "0\n", "0 \n", " 0\n", "0 0", "00\n", "0  0\n", " 0 0\n", "0 0 \n", "0 0\n\n", "0 0\n0 0\n", "0 0\r\n", "0 0\x00\n", "0\t0\n", "0 0\nx", "0 0x\n",
		"00 1\n", "1 01\n", "0 00\n", "00 0\n", "01 1\n", "0000000001 1\n", "00000000001 00000000001\n", // noughts ahead
		"1 0\n", "5 3\n", "1000000000 999999999\n", "10 9\n", // START above HIGH
		"0 1000000001\n", "1000000001 1000000001\n", "0 9999999999\n", "0 10000000000\n", "10000000000 10000000000\n", "0 99999999999\n", "0 18446744073709551616\n", "18446744073709551616 18446744073709551616\n", "0 9223372036854775807\n", "0 9223372036854775808\n", "0 " + strings.Repeat("9", 400) + "\n",
		"-1 0\n", "-1 -1\n", "+0 0\n", "0 +1\n", "0 -0\n", "-0 0\n", "0 1_0\n", "0x1 0x1\n", "1e1 1e1\n", "0 1.0\n", "a b\n", "0 b\n", "a 0\n", "0,0\n", "0 0 0\n", "０ ０\n", "0 0\n" + strings.Repeat("\n", 100),
	} {
		must(t, d.Replace("p.meta", text))
		wantRefused(t, d, "p", 256, api.ErrForm)
	}
}

func TestOpenWithAnyBytesForAMeta(t *testing.T) {
	c := chance{rand.New(rand.NewSource(5))}
	letters := "0123456789 \n\n  99-+x"
	for range 3000 {
		text := c.text(30)
		if c.Intn(2) == 0 {
			b := make([]byte, c.Intn(9))
			for i := range b {
				b[i] = letters[c.Intn(len(letters))]
			}
			text = string(b)
		}
		d := made(t, 10000)
		put(t, d, 0, batch(0, 9))
		must(t, d.Replace("p.meta", text))
		if start, high, ok := plainMeta(text); ok {
			l := opened(t, d, "p", 256)
			next := max(9, start)
			wantNumbers(t, l, start, next, next, min(high, next))
		} else {
			wantRefused(t, d, "p", 256, api.ErrForm)
		}
	}
}

// L1, the files

func TestOpenFilesByTheirBases(t *testing.T) {
	a, b, c := batch(0, 3), batch(3, 2), batch(5, 4)
	for _, x := range []struct {
		what  string
		meta  string
		files map[int][]api.Batch
		want  []int
		next  int
		list  []api.Batch
	}{
		{"all", "0 0\n", map[int][]api.Batch{0: {a}, 3: {b}, 5: {c}}, []int{0, 3, 5}, 9, []api.Batch{a, b, c}},
		{"all in one", "0 0\n", map[int][]api.Batch{0: {a, b, c}}, []int{0}, 9, []api.Batch{a, b, c}},
		{"the first at START", "3 3\n", map[int][]api.Batch{3: {b}, 5: {c}}, []int{3, 5}, 9, []api.Batch{b, c}},
		{"the first below START", "5 5\n", map[int][]api.Batch{3: {b}, 5: {c}}, []int{3, 5}, 9, []api.Batch{c}},
		{"the first above START", "2 2\n", map[int][]api.Batch{3: {b}, 5: {c}}, []int{2}, 2, nil},
		{"the first above START, one below", "4 4\n", map[int][]api.Batch{5: {c}}, []int{4}, 4, nil},
		{"no meta, the first above 0", "", map[int][]api.Batch{3: {b}, 5: {c}}, []int{0}, 0, nil},
		{"the middle is missing", "0 0\n", map[int][]api.Batch{0: {a}, 5: {c}}, []int{0}, 3, []api.Batch{a}},
		{"the middle is missing, and START is behind it", "5 5\n", map[int][]api.Batch{0: {a}, 5: {c}}, []int{5}, 5, nil},
		{"the middle is empty", "0 0\n", map[int][]api.Batch{0: {a}, 3: {}, 5: {c}}, []int{0, 3}, 3, []api.Batch{a}},
		{"the first is empty", "0 0\n", map[int][]api.Batch{0: {}, 3: {b}, 5: {c}}, []int{0}, 0, nil},
		{"the last is empty", "0 0\n", map[int][]api.Batch{0: {a}, 3: {b}, 5: {}}, []int{0, 3, 5}, 5, []api.Batch{a, b}},
		{"the first has more", "0 0\n", map[int][]api.Batch{0: {a, b}, 3: {b}, 5: {c}}, []int{0}, 5, []api.Batch{a, b}},
		{"one behind a gap, then one that would do", "0 0\n", map[int][]api.Batch{0: {a, b}, 4: {}, 5: {c}}, []int{0}, 5, []api.Batch{a, b}},
		{"all end below START", "20 30\n", map[int][]api.Batch{0: {a}, 3: {b}, 5: {c}}, []int{20}, 20, nil},
		{"all end at START", "9 9\n", map[int][]api.Batch{0: {a}, 3: {b}, 5: {c}}, []int{0, 3, 5}, 9, nil},
		{"the last ends below START, with its file", "3 3\n", map[int][]api.Batch{0: {}, 3: {b}}, []int{3}, 3, nil},
		{"no files", "", nil, []int{0}, 0, nil},
		{"no files, a meta", "7 8\n", nil, []int{7}, 7, nil},
		{"START within a batch", "4 4\n", map[int][]api.Batch{0: {a}, 3: {b}, 5: {c}}, []int{0, 3, 5}, 9, []api.Batch{b, c}},
	} {
		d := made(t, 10000)
		for base, list := range x.files {
			put(t, d, base, list...)
		}
		start := 0
		if x.meta != "" {
			must(t, d.Replace("p.meta", x.meta))
			start, _, _ = plainMeta(x.meta)
		}
		l := opened(t, d, "p", 256)
		wantFiles(t, d, "p", x.want...)
		if l.Start() != start || l.Next() != x.next || l.Safe() != x.next || !same(l.All(), x.list) {
			t.Fatalf("%s: Start %d, Next %d, Safe %d, All %.300v, want %d, %d, %.300v", x.what, l.Start(), l.Next(), l.Safe(), l.All(), start, x.next, x.list)
		}
	}
}

func TestOpenCutsOffWhatIsTorn(t *testing.T) {
	a, b, c := batch(0, 3), batch(3, 2), batch(5, 4)
	whole := bytesOf(t, b)
	for keep := range len(whole) + 1 {
		d := made(t, 10000)
		put(t, d, 0, a)
		put(t, d, 5, c)
		must(t, d.Replace(file("p", 3), whole[:keep]))
		l := opened(t, d, "p", 256)
		if keep == len(whole) {
			wantFiles(t, d, "p", 0, 3, 5)
			wantAll(t, l, a, b, c)
			continue
		}
		wantFiles(t, d, "p", 0, 3)
		wantAll(t, l, a)
		wantNumbers(t, l, 0, 3, 3, 0)
		if n := d.Size(file("p", 3)); n != 0 {
			t.Fatalf("%d bytes are left of a torn batch", n)
		}
	}
}

func TestOpenPassesOverOtherNames(t *testing.T) {
	d := made(t, 10000)
	put(t, d, 0, batch(0, 3))
	names := []string{
		"p-000000003.log", "p-00000000003.log", "p-3.log", "p-.log", "p-0000000003", "p-0000000003.lo", "p-0000000003.log.", "p-0000000003.log.log", "p0000000003.log", "p-0000000003.meta", "p--000000003.log", "p-000000000a.log", "p-1000000001.log", "p-9999999999.log", "p--0000000003.log", "p.0000000003.log", "p-0000000003-log",
		"q-0000000003.log", "pp-0000000003.log", "-0000000003.log", "0000000003.log", "p-p-0000000003.log", "p-0-0000000003.log", "p-0000000000-0000000003.log", "p.metas", "p-.meta", "meta", "p.log", "p", "p-18446744073709551616.log", "p--9223372036854775808.log", "p--10000000000.log", "p-0x00000003.log",
	}
	for _, name := range names {
		must(t, d.Append(name, "rubbish"))
	}
	l := opened(t, d, "p", 256)
	wantNumbers(t, l, 0, 3, 3, 0)
	must(t, l.Begin(7), l.Take(batch(7, 1)), l.Cut(7), l.Delete(7))
	l = opened(t, d, "p", 256)
	for _, name := range names {
		if b, e := d.Read(name); b != "rubbish" || e != api.OK || d.Synced(name) != 0 {
			t.Fatalf("%q has %q, %d", name, b, int(e))
		}
	}
	if n := len(d.Names()); n != len(names)+2 {
		t.Fatalf("%d files", n)
	}
}

func TestOpenWithAnyBytesInItsFiles(t *testing.T) {
	c := chance{rand.New(rand.NewSource(11))}
	for range 500 {
		d := made(t, 100000)
		for range 1 + c.Intn(5) {
			must(t, d.Append(file("p", c.Intn(8)), c.text(100)))
		}
		if c.Intn(2) == 0 {
			start := c.Intn(8)
			must(t, d.Replace("p.meta", strconv.Itoa(start)+" "+strconv.Itoa(start+c.Intn(3))+"\n"))
		}
		p := &paper{t: t, most: 256}
		p.open(d)
		l := opened(t, d, "p", 256)
		p.wantAs(d, l, "any bytes")
		must(t, l.Take(batch(l.Next(), 2)))
		wantAll(t, l, batch(l.Next()-2, 2))
	}
}
