package epochs_test

import (
	"encoding/binary"
	"math/rand"
	"slices"
	"strings"
	"testing"

	"logboom/api"
	"logboom/epochs"
)

// wantOpen asks what Open makes of a file, and that the disk is as it was.
func wantOpen(t *testing.T, file string, want api.Errno, list ...pair) {
	t.Helper()
	d := made(t, 100000)
	must(t, d.Replace("e", file))
	before := picture(d)
	c, e := epochs.Open(d, "e")
	if e != want || (c != nil) != (want == api.OK) {
		t.Fatalf("Open of %.300q: got %v, %d, want %d", file, c, int(e), int(want))
	}
	if c != nil {
		wantAll(t, c, list...)
	}
	if got := picture(d); got != before {
		t.Fatalf("Open of %.300q: the disk was\n%.500s\nis\n%.500s", file, before, got)
	}
}

// P7.1

func TestOpenWithoutAFile(t *testing.T) {
	d := made(t, 1000)
	must(t, d.Append("other", "bytes"))
	before := picture(d)
	c := opened(t, d, "e")
	wantAll(t, c)
	if got := picture(d); got != before {
		t.Fatalf("the disk was\n%s\nis\n%s", before, got)
	}
}

func TestOpenWithANameThatIsNone(t *testing.T) {
	for _, name := range []string{"", "E", "a b", "a/b", "ä", "\x00", "a_b", strings.Repeat("a", 65), strings.Repeat("a", 100000)} {
		d := made(t, 1000)
		before := picture(d)
		c := opened(t, d, name)
		wantAll(t, c)
		wantErr(t, "Begin", c.Begin(1, 0), api.ErrArg)
		must(t, c.Cut(0), c.Delete(9))
		wantAll(t, c)
		wantEnd(t, c, 9, 9, -1, -1)
		if got := picture(d); got != before {
			t.Fatalf("%.80q: the disk was\n%s\nis\n%s", name, before, got)
		}
	}
	for _, name := range []string{"e", "0", "-", ".", "p.epochs", strings.Repeat("a", 64)} {
		d := made(t, 1000)
		must(t, opened(t, d, name).Begin(1, 0))
		if names := d.Names(); len(names) != 1 || names[0] != name {
			t.Fatalf("Names: %q", names)
		}
		wantAll(t, opened(t, d, name), pair{1, 0})
	}
}

func TestOpenOfAFewBytes(t *testing.T) {
	for _, file := range []string{"", "\x00", "ab", "abc", "\x00\x00\x00"} {
		wantOpen(t, file, api.ErrShort)
	}
	wantOpen(t, "abcd", api.ErrSum)
	wantOpen(t, "\x00\x00\x00\x01", api.ErrSum)
	// Of nothing the Crc is 0; but that is no count.
	wantOpen(t, "\x00\x00\x00\x00", api.ErrForm)
	wantOpen(t, sealed(""), api.ErrForm)
	// The Crc of one byte 0, by its bytes.
	wantOpen(t, "\x52\x7d\x53\x51\x00", api.OK)
}

func TestOpenWithAnotherCrc(t *testing.T) {
	file := written(pair{1, 0}, pair{5, 10}, pair{600, 3000})
	for i := range len(file) {
		for bit := range 8 {
			b := []byte(file)
			b[i] ^= 1 << bit
			wantOpen(t, string(b), api.ErrSum)
		}
	}
	for n := range len(file) {
		if n < 4 {
			wantOpen(t, file[:n], api.ErrShort)
		} else {
			wantOpen(t, file[:n], api.ErrSum)
		}
	}
	wantOpen(t, file+"x", api.ErrSum)
	// The sum's error ahead of the form's.
	wantOpen(t, "\x00\x00\x00\x00"+ints(201), api.ErrSum)
	// The lowest byte first is another one.
	b := []byte(file)
	slices.Reverse(b[:4])
	wantOpen(t, string(b), api.ErrSum)
}

func TestOpenOfSoManyEntries(t *testing.T) {
	for _, n := range []int{0, 1, 2, 63, 64, 199, 200} {
		list := row(n, 0, 0)
		wantOpen(t, written(list...), api.OK, list...)
	}
	for _, n := range []int{201, 202, 1000} {
		wantOpen(t, written(row(n, 0, 0)...), api.ErrForm)
	}
}

func TestOpenOfOtherNumbers(t *testing.T) {
	for _, n := range []int{0, most} {
		wantOpen(t, written(pair{n, 7}), api.OK, pair{n, 7})
		wantOpen(t, written(pair{7, n}), api.OK, pair{7, n})
	}
	wantOpen(t, written(pair{0, 0}, pair{most, most}), api.OK, pair{0, 0}, pair{most, most})
	for _, n := range []int{-1, most + 1, -most, 1<<63 - 1, -1 << 63, 1 << 32} {
		wantOpen(t, written(pair{n, 7}), api.ErrForm)
		wantOpen(t, written(pair{7, n}), api.ErrForm)
		wantOpen(t, written(pair{n, n}), api.ErrForm)
		wantOpen(t, written(pair{1, 1}, pair{n, 7}), api.ErrForm)
		wantOpen(t, written(pair{1, 1}, pair{7, n}), api.ErrForm)
		wantOpen(t, written(pair{n, 1}, pair{7, 7}), api.ErrForm)
		wantOpen(t, written(pair{1, n}, pair{7, 7}), api.ErrForm)
	}
}

func TestOpenOfWhatDoesNotRise(t *testing.T) {
	wantOpen(t, written(pair{3, 10}, pair{4, 11}), api.OK, pair{3, 10}, pair{4, 11})
	for _, x := range []pair{{3, 20}, {2, 20}, {0, 20}, {9, 10}, {9, 9}, {9, 0}, {3, 10}, {2, 9}} {
		wantOpen(t, written(pair{3, 10}, x), api.ErrForm)
		wantOpen(t, written(pair{3, 10}, x, pair{30, 30}), api.ErrForm)
		wantOpen(t, written(pair{1, 1}, pair{3, 10}, x), api.ErrForm)
	}
	list := row(200, 0, 0)
	list[199] = pair{1980, 1990}
	wantOpen(t, written(list...), api.ErrForm)
	list[199] = pair{1990, 1980}
	wantOpen(t, written(list...), api.ErrForm)
}

func TestOpenOfIntsInOtherBytes(t *testing.T) {
	wantOpen(t, sealed("\x02"+"\x0a"+"\x80\x01"), api.OK, pair{5, 64})
	for _, rest := range []string{
		"\x82\x00" + "\x0a" + "\x80\x01", // each int with a byte too many
		"\x02" + "\x8a\x00" + "\x80\x01",
		"\x02" + "\x0a" + "\x80\x81\x00",
		"\x02" + "\x0a" + "\x80\x80\x80\x80\x80\x80\x80\x80\x80\x00",
		"\x80\x00",                    // no entries
		"\x02" + "\x0a" + "\x80",      // that end too early
		"\x02" + "\x0a",               //
		"\x02",                        //
		"\x80",                        //
		"\x02" + "\x0a" + "\xff\xff",  //
		"\x02" + "\x0a\x80\x01" + "0", // an int is another one then
		"\x02" + "\x0a" + "\x80\x80\x80\x80\x80\x80\x80\x80\x80\x02", // beyond 64 bits
		"\x02" + "\x0a" + strings.Repeat("\xff", 11),
	} {
		wantOpen(t, sealed(rest), api.ErrForm)
	}
	// Two entries' numbers as fixed ones, not by sevens.
	fixed := binary.BigEndian.AppendUint32(nil, 1)
	fixed = binary.BigEndian.AppendUint32(fixed, 5)
	wantOpen(t, sealed(string(binary.BigEndian.AppendUint32(fixed, 64))), api.ErrForm)
}

func TestOpenOfAnotherCount(t *testing.T) {
	list := row(3, 1, 1)
	rest := written(list...)[5:]
	wantOpen(t, sealed(ints(3)+rest), api.OK, list...)
	for _, n := range []int{0, 1, 2, 4, 5, 6, 200, 201, -1, -3, 1<<63 - 1, -1 << 63, 1 << 31, 3 << 32} {
		wantOpen(t, sealed(ints(n)+rest), api.ErrForm)
	}
	wantOpen(t, sealed(ints(-1)), api.ErrForm)
	wantOpen(t, sealed(ints(1<<62)), api.ErrForm)
	// Half an entry more, or less.
	wantOpen(t, sealed(ints(3)+rest+ints(50)), api.ErrForm)
	wantOpen(t, sealed(ints(4)+rest+ints(50)), api.ErrForm)
	wantOpen(t, sealed(ints(3)+rest[:len(rest)-1]), api.ErrForm)
}

func TestOpenWithBytesBehind(t *testing.T) {
	for _, list := range [][]pair{nil, {{1, 0}}, row(200, 0, 0)} {
		rest := written(list...)[4:]
		wantOpen(t, sealed(rest), api.OK, list...)
		for _, more := range []string{"\x00", "x", "\x80", ints(3000, 3000), written(list...), rest} {
			wantOpen(t, sealed(rest+more), api.ErrForm)
		}
	}
}

// plain reads a file as the chapter says, by another hand than the program's.
func plain(file string) ([]pair, api.Errno) {
	if len(file) < 4 {
		return nil, api.ErrShort
	}
	rest := []byte(file[4:])
	if sealed(string(rest)) != file {
		return nil, api.ErrSum
	}
	var numbers []int
	for len(rest) > 0 {
		n, size := binary.Varint(rest)
		if size <= 0 || ints(int(n)) != string(rest[:size]) {
			return nil, api.ErrForm
		}
		numbers = append(numbers, int(n))
		rest = rest[size:]
	}
	if len(numbers) == 0 || numbers[0] < 0 || numbers[0] > 200 || len(numbers) != 1+2*numbers[0] {
		return nil, api.ErrForm
	}
	var list []pair
	for i := 1; i < len(numbers); i += 2 {
		for k := range 2 {
			n := numbers[i+k]
			if n < 0 || n > most || i > 1 && n <= numbers[i+k-2] {
				return nil, api.ErrForm
			}
		}
		list = append(list, pair{numbers[i], numbers[i+1]})
	}
	return list, api.OK
}

func TestOpenOfAnyBytes(t *testing.T) {
	r := rand.New(rand.NewSource(7))
	right := 0
	for range 20000 {
		b := make([]byte, r.Intn(12))
		r.Read(b)
		switch r.Intn(4) {
		case 0: // any bytes at all
		case 1:
			b = []byte(sealed(string(b)))
		case 2: // small numbers, with a count that is mostly theirs
			for i := range b {
				b[i] = byte(2 * (i + r.Intn(3)))
			}
			if len(b) > 0 {
				b[0] = byte(len(b) - len(b)%2 + 2*r.Intn(2) - 2*r.Intn(2))
			}
			b = []byte(sealed(string(b)))
		case 3: // a right file, of which one byte is another one, and the sum is right again
			list := row(r.Intn(5), r.Intn(100), r.Intn(100000))
			rest := []byte(written(list...)[4:])
			rest[r.Intn(len(rest))] += byte(r.Intn(5))
			b = []byte(sealed(string(rest)))
		}
		list, want := plain(string(b))
		if want == api.OK {
			right++
		}
		wantOpen(t, string(b), want, list...)
	}
	if right < 1000 {
		t.Fatalf("only %d files were right", right)
	}
}

// Bytes that are not safe are read, too; a crash may take them.
func TestOpenOfWhatIsNotSafe(t *testing.T) {
	d := made(t, 1000)
	file := written(pair{1, 0}, pair{5, 10})
	must(t, d.Append("e", file))
	c := opened(t, d, "e")
	wantAll(t, c, pair{1, 0}, pair{5, 10})
	must(t, c.Begin(6, 20))
	wantKept(t, d, c, pair{1, 0}, pair{5, 10}, pair{6, 20})
}

// The file

func TestTheFilesBytes(t *testing.T) {
	d := made(t, 1000)
	c := opened(t, d, "e")
	must(t, c.Begin(3, 64))
	wantFile(t, d, sealed("\x02\x06\x80\x01"))
	must(t, c.Begin(100, most))
	wantFile(t, d, sealed("\x04\x06\x80\x01\xc8\x01\x80\xa8\xd6\xb9\x07"))
	must(t, c.Cut(0))
	wantFile(t, d, "\x52\x7d\x53\x51\x00")
}

// refusals are calls that write, upon entries.
func refusals() []struct {
	step
	list []pair
} {
	list := []pair{{1, 0}, {5, 10}, {6, 30}}
	return []struct {
		step
		list []pair
	}{
		{begin(1, 0), nil},
		{begin(7, 40), list},
		{begin(7, 30), list},
		{begin(7, 5), list},
		{begin(7, 0), list},
		{cut(30), list},
		{cut(10), list},
		{cut(0), list},
		{remove(5), list},
		{remove(10), list},
		{remove(12), list},
		{remove(100), list},
		{remove(most), list},
		{begin(5000, 1990), row(200, 0, 0)},
		{cut(1990), row(200, 0, 0)},
		{remove(5), row(200, 0, 0)},
	}
}

// An error of the disk's is the call's: nothing is changed then, and the call does its work when there is room.
func TestADiskThatRefuses(t *testing.T) {
	for _, x := range refusals() {
		for _, want := range []api.Errno{api.ErrFull, api.ErrMany} {
			d := made(t, 100000)
			c := begun(t, d, x.list...)
			if len(x.list) > 0 {
				// Only for a file that is not there there may be no room for less than it had.
				must(t, d.Remove("e"))
			}
			if want == api.ErrFull {
				stuff(t, d, 0)
			} else {
				crowd(t, d, api.MaxFiles)
			}
			before := picture(d)
			for range 2 {
				wantErr(t, x.what, x.call(c), want)
				wantAll(t, c, x.list...)
				if got := picture(d); got != before {
					t.Fatalf("%s: the disk was\n%.500s\nis\n%.500s", x.what, before, got)
				}
			}
			must(t, d.Remove(map[api.Errno]string{api.ErrFull: "stuff", api.ErrMany: "crowd0"}[want]))
			must(t, x.call(c))
			twin := made(t, 100000)
			other := begun(t, twin, x.list...)
			must(t, x.call(other))
			file, _ := twin.Read("e")
			wantFile(t, d, file)
			list, _ := plain(file)
			wantKept(t, d, c, list...)
			wantKept(t, twin, other, list...)
		}
	}
}

// What has just room is written; one byte less, and the file stays what it was.
func TestADiskWithJustRoom(t *testing.T) {
	list := []pair{{1, 0}, {5, 10}, {6, 30}}
	for _, x := range []struct {
		step
		list, want []pair
	}{
		{begin(1, 0), nil, []pair{{1, 0}}},
		{begin(7, 40), list, append(slices.Clone(list), pair{7, 40})},
		{begin(most, most), list, append(slices.Clone(list), pair{most, most})},
		{begin(most, 30), list, []pair{{1, 0}, {5, 10}, {most, 30}}},
		{remove(most), []pair{{1, 0}}, []pair{{1, most}}},
		{remove(64), []pair{{1, 0}}, []pair{{1, 64}}},
	} {
		need := len(written(x.want...))
		had := 0
		if len(x.list) > 0 {
			had = len(written(x.list...))
		}
		if need <= had {
			t.Fatalf("%s needs no more room", x.what)
		}
		d := made(t, 1000)
		c := begun(t, d, x.list...)
		stuff(t, d, need-had-1)
		before := picture(d)
		wantErr(t, x.what, x.call(c), api.ErrFull)
		wantAll(t, c, x.list...)
		if got := picture(d); got != before {
			t.Fatalf("%s: the disk was\n%s\nis\n%s", x.what, before, got)
		}
		stuff(t, d, need-had)
		must(t, x.call(c))
		wantKept(t, d, c, x.want...)
	}
	// What makes the file shorter always has room.
	d := made(t, 1000)
	c := begun(t, d, list...)
	stuff(t, d, 0)
	must(t, c.Delete(10), c.Cut(30))
	wantKept(t, d, c, pair{5, 10})
	must(t, c.Begin(9, 10), c.Cut(0))
	wantKept(t, d, c)
}

// A call that leaves the entries as they are does not ask the disk.
func TestADiskThatIsNotAsked(t *testing.T) {
	list := []pair{{1, 0}, {5, 10}}
	d := made(t, 1000)
	c := begun(t, d, list...)
	empty := opened(t, d, "empty")
	must(t, d.Remove("e"))
	stuff(t, d, 0)
	crowd(t, d, api.MaxFiles)
	before := picture(d)
	must(t, c.Begin(5, 10), c.Begin(5, most), c.Cut(11), c.Cut(most), c.Delete(0), empty.Cut(0), empty.Delete(9))
	wantErr(t, "Begin", c.Begin(4, 20), api.ErrFenced)
	wantErr(t, "Begin", c.Begin(9, -1), api.ErrArg)
	wantErr(t, "Cut", c.Cut(-1), api.ErrArg)
	wantErr(t, "Delete", c.Delete(-1), api.ErrArg)
	wantAll(t, c, list...)
	wantAll(t, empty)
	if got := picture(d); got != before {
		t.Fatalf("the disk was\n%s\nis\n%s", before, got)
	}
	// There being too many is told ahead of what the disk says.
	d = made(t, 10000)
	c = begun(t, d, row(200, 0, 0)...)
	stuff(t, d, 0)
	wantErr(t, "Begin of the 201st", c.Begin(5000, 5000), api.ErrMany)
	wantErr(t, "Begin of a 200th", c.Begin(most, 1990), api.ErrFull)
	wantKept(t, d, c, row(200, 0, 0)...)
}
