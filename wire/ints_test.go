package wire_test

import (
	"math"
	"math/rand"
	"strings"
	"testing"

	"logboom/api"
	"logboom/wire"
)

func wantCrc(t *testing.T, b string, want int) {
	t.Helper()
	if got := wire.Crc(b); got != want {
		t.Fatalf("Crc(%q): got %d, want %d", b, got, want)
	}
}

func wantInt(t *testing.T, n int, want string) {
	t.Helper()
	if got := wire.Int(n); got != want {
		t.Fatalf("Int(%d): got %q, want %q", n, got, want)
	}
}

func wantReadInt(t *testing.T, b string, n, size int, want api.Errno) {
	t.Helper()
	if x, k, e := wire.ReadInt(b); x != n || k != size || e != want {
		t.Fatalf("ReadInt(%q): got %d, %d, %d, want %d, %d, %d", b, x, k, int(e), n, size, int(want))
	}
}

// intEdges are ints at whose sides the number of bytes changes, and the others that calls may stumble over.
func intEdges() []int {
	all := append([]int(nil), anyInts...)
	for i := range 63 {
		p := 1 << i
		all = append(all, p-1, p, p+1, -p-1, -p, -p+1)
	}
	return all
}

// W3.1

func TestCrcOfKnownBytes(t *testing.T) {
	var up, down strings.Builder
	for i := range byte(32) {
		up.WriteByte(i)
		down.WriteByte(31 - i)
	}
	wantCrc(t, "", 0)
	wantCrc(t, "123456789", 3808858755)
	wantCrc(t, "a", 0xC1D04330)
	wantCrc(t, strings.Repeat("\x00", 32), 0x8A9136AA)
	wantCrc(t, strings.Repeat("\xff", 32), 0x62A8AB43)
	wantCrc(t, up.String(), 0x46DD794E)
	wantCrc(t, down.String(), 0x113FDB5C)
}

func TestCrcOfEveryByte(t *testing.T) {
	for i := range 256 {
		b := string([]byte{byte(i)})
		wantCrc(t, b, int(plainSum(b)))
		wantCrc(t, "x"+b, int(plainSum("x"+b)))
	}
}

func TestCrcOfAnyBytes(t *testing.T) {
	r := rand.New(rand.NewSource(1))
	high := false
	for n := range 600 {
		b := anyBytes(r, n)
		wantCrc(t, b, int(plainSum(b)))
		high = high || wire.Crc(b) > math.MaxInt32
	}
	if !high {
		t.Error("no sum had its highest bit")
	}
	b := anyBytes(r, 70000)
	wantCrc(t, b, int(plainSum(b)))
}

// W3.2

func TestIntOfTheEdges(t *testing.T) {
	for _, c := range []struct {
		n    int
		want string
	}{
		{0, "\x00"}, {-1, "\x01"}, {1, "\x02"}, {-2, "\x03"}, {63, "\x7e"}, {-64, "\x7f"}, {64, "\x80\x01"}, {-65, "\x81\x01"},
		{8191, "\xfe\x7f"}, {-8192, "\xff\x7f"}, {8192, "\x80\x80\x01"}, {-8193, "\x81\x80\x01"},
		{1 << 61, "\x80\x80\x80\x80\x80\x80\x80\x80\x40"},
		{1<<62 - 1, "\xfe\xff\xff\xff\xff\xff\xff\xff\x7f"},
		{-1 << 62, "\xff\xff\xff\xff\xff\xff\xff\xff\x7f"},
		{1 << 62, "\x80\x80\x80\x80\x80\x80\x80\x80\x80\x01"},
		{math.MaxInt, "\xfe\xff\xff\xff\xff\xff\xff\xff\xff\x01"},
		{math.MinInt + 1, "\xfd\xff\xff\xff\xff\xff\xff\xff\xff\x01"},
		{math.MinInt, "\xff\xff\xff\xff\xff\xff\xff\xff\xff\x01"},
	} {
		wantInt(t, c.n, c.want)
		wantReadInt(t, c.want, c.n, len(c.want), api.OK)
	}
}

func TestIntsAreReadAsTheyWereWritten(t *testing.T) {
	all := intEdges()
	for n := -20000; n <= 20000; n++ {
		all = append(all, n)
	}
	for _, n := range all {
		s := plainInt(n)
		wantInt(t, n, s)
		for _, behind := range []string{"", "\x00", "\x01", "\x80", "\xff", "\xff\xff\xff\xff\xff\xff\xff\xff\xff\xff"} {
			wantReadInt(t, s+behind, n, len(s), api.OK)
		}
	}
}

func TestReadIntOfBytesThatEndEarly(t *testing.T) {
	wantReadInt(t, "", 0, 0, api.ErrShort)
	for _, n := range intEdges() {
		s := plainInt(n)
		for i := range len(s) {
			wantReadInt(t, s[:i], 0, 0, api.ErrShort)
		}
	}
	for i := range 10 {
		wantReadInt(t, strings.Repeat("\x80", i), 0, 0, api.ErrShort)
		wantReadInt(t, strings.Repeat("\xff", i), 0, 0, api.ErrShort)
	}
}

func TestReadIntOfATenthByte(t *testing.T) {
	for _, nine := range []string{strings.Repeat("\x80", 9), strings.Repeat("\xff", 9)} {
		for c := range 256 {
			s := nine + string([]byte{byte(c)})
			if c == 1 {
				if _, k, e := wire.ReadInt(s); k != 10 || e != api.OK {
					t.Errorf("ReadInt(%q): %d, %v", s, k, e)
				}
				continue
			}
			for _, behind := range []string{"", "\x00", "\x01", "\xff"} {
				wantReadInt(t, s+behind, 0, 0, api.ErrForm)
			}
		}
	}
}

func TestReadIntOfALastByteThatIsZero(t *testing.T) {
	wantReadInt(t, "\x00", 0, 1, api.OK)
	wantReadInt(t, "\x00\x00", 0, 1, api.OK)
	for i := 1; i < 10; i++ {
		for _, front := range []string{"\x80", "\x81", "\xff"} {
			s := strings.Repeat(front, i) + "\x00"
			wantReadInt(t, s, 0, 0, api.ErrForm)
			wantReadInt(t, s+"\x01", 0, 0, api.ErrForm)
		}
	}
	// Zeros that are not last are digits like others.
	wantReadInt(t, "\x80\x80\x01", 8192, 3, api.OK)
}

// wantPlainInt holds ReadInt against the promise: what it reads are the bytes that Int writes of it, and what it refuses are nobody's.
func wantPlainInt(t *testing.T, b string) {
	t.Helper()
	last := -1
	for i := range len(b) {
		if b[i] < 128 {
			last = i
			break
		}
	}
	c := cutter{b, true}
	n := c.int()
	switch {
	case last < 0 && len(b) < 10:
		wantReadInt(t, b, 0, 0, api.ErrShort)
	case !c.ok || plainInt(n) != b[:len(b)-len(c.rest)]:
		wantReadInt(t, b, 0, 0, api.ErrForm)
	default:
		wantReadInt(t, b, n, last+1, api.OK)
	}
}

func TestReadIntOfAllShortBytes(t *testing.T) {
	for a := range 256 {
		wantPlainInt(t, string([]byte{byte(a)}))
		for b := range 256 {
			wantPlainInt(t, string([]byte{byte(a), byte(b)}))
		}
	}
}

func TestReadIntOfAnyBytes(t *testing.T) {
	r := rand.New(rand.NewSource(2))
	for range 50000 {
		b := []byte(anyBytes(r, r.Intn(13)))
		// High bytes are made common, for else few are read far.
		for i := range b {
			if r.Intn(10) > 0 {
				b[i] |= 128
			} else if r.Intn(3) == 0 {
				b[i] &= 1
			}
		}
		wantPlainInt(t, string(b))
	}
}

// W3.7

func TestTwoIntsHaveOtherBytes(t *testing.T) {
	of := map[string]int{}
	all := intEdges()
	for n := -9000; n <= 9000; n++ {
		all = append(all, n)
	}
	for _, n := range all {
		s := wire.Int(n)
		if m, ok := of[s]; ok && m != n {
			t.Errorf("%d and %d are both %q", m, n, s)
		}
		of[s] = n
		wantInt(t, n, s)
	}
}

// The chapter's examples

func TestExamplesOfInts(t *testing.T) {
	wantCrc(t, "123456789", 3808858755)
	wantCrc(t, "", 0)
	wantInt(t, 0, "\x00")
	wantInt(t, -1, "\x01")
	wantInt(t, 1, "\x02")
	wantInt(t, 64, "\x80\x01")
	wantInt(t, -65, "\x81\x01")
	wantReadInt(t, "\x80\x01\x09", 64, 2, api.OK)
	wantReadInt(t, "\x80", 0, 0, api.ErrShort)
	wantReadInt(t, "\x80\x00", 0, 0, api.ErrForm)
	wantReadInt(t, "", 0, 0, api.ErrShort)
}
