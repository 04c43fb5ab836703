package pieces_test

import (
	"encoding/binary"
	"hash/crc32"
	"math"
	"reflect"
	"strings"
	"testing"

	"logboom/api"
	"logboom/pieces"
	"logboom/wire"
)

func plainInt(n int) string { return string(binary.AppendVarint(nil, int64(n))) }

func TestAppendIntsWritesEachBehindWhatIsThere(t *testing.T) {
	got := string(pieces.AppendInts([]byte("x"), 0, -1, 64, math.MinInt, math.MaxInt))
	want := "x" + plainInt(0) + plainInt(-1) + plainInt(64) + plainInt(math.MinInt) + plainInt(math.MaxInt)
	if got != want {
		t.Errorf("got %q, want %q", got, want)
	}
	if got := pieces.AppendInts(nil); len(got) != 0 {
		t.Errorf("no ints: %q", got)
	}
}

func TestAppendTextWritesItsLengthAhead(t *testing.T) {
	for _, text := range []string{"", "a", "\x00\xff", strings.Repeat("x", 64), strings.Repeat("x", 70000)} {
		if got := string(pieces.AppendText([]byte("y"), text)); got != "y"+plainInt(len(text))+text {
			t.Errorf("a text of %d bytes: got %q", len(text), got)
		}
	}
}

func TestFourBytesTheHighestFirst(t *testing.T) {
	for n, want := range map[int]string{0: "\x00\x00\x00\x00", 1: "\x00\x00\x00\x01", 0x01020304: "\x01\x02\x03\x04", math.MaxUint32: "\xff\xff\xff\xff", 0x80000000: "\x80\x00\x00\x00"} {
		if got := pieces.Four(n); got != want {
			t.Errorf("Four(%d): %q", n, got)
		}
		if got := pieces.ReadFour(want + "\xff"); got != n {
			t.Errorf("ReadFour(%q): %d", want, got)
		}
	}
	for b, want := range map[string]int{"": 0, "\x01": 1 << 24, "\xff\x02": 0xff020000, "\x01\x02\x03": 0x01020300} {
		if got := pieces.ReadFour(b); got != want {
			t.Errorf("ReadFour(%q): %#x", b, got)
		}
	}
}

func TestSealWritesAChecksumAhead(t *testing.T) {
	for _, rest := range []string{"", "\x00", "123456789", strings.Repeat("x", 70000)} {
		sum := crc32.Checksum([]byte(rest), crc32.MakeTable(crc32.Castagnoli))
		got := pieces.Seal(rest)
		if want := string(binary.BigEndian.AppendUint32(nil, sum)) + rest; got != want {
			t.Errorf("Seal(%.80q): %.80q, want %.80q", rest, got, want)
		}
		if back, e := pieces.Unseal(got); back != rest || e != api.OK {
			t.Errorf("Unseal(%.80q): %.80q, %d", got, back, int(e))
		}
	}
}

func TestUnsealRefusesWhatSealDoesNotWrite(t *testing.T) {
	right := pieces.Seal("some")
	for n := range len(right) {
		want := api.ErrSum
		if n < 4 {
			want = api.ErrShort
		}
		if rest, e := pieces.Unseal(right[:n]); rest != "" || e != want {
			t.Errorf("Unseal of %d bytes: %q, %d, want %d", n, rest, int(e), int(want))
		}
	}
	for i := range len(right) {
		b := []byte(right)
		b[i] ^= 0x80
		if rest, e := pieces.Unseal(string(b)); rest != "" || e != api.ErrSum {
			t.Errorf("Unseal of another byte %d: %q, %d", i, rest, int(e))
		}
	}
	if rest, e := pieces.Unseal(right + "x"); rest != "" || e != api.ErrSum {
		t.Errorf("Unseal of more: %q, %d", rest, int(e))
	}
}

func TestReaderReadsWhatIsWritten(t *testing.T) {
	batch := api.Batch{Base: 5, Records: []api.Record{{Key: "k", Value: "v", Time: 3}}}
	frame, _ := wire.Batch(batch)
	b := pieces.AppendInts(nil, math.MinInt, 3)
	b = pieces.AppendText(b, "text")
	b = append(b, frame...)
	b = pieces.AppendText(b, "")
	r := pieces.Read(string(b))
	if n := r.Int(); n != math.MinInt {
		t.Errorf("Int: %d", n)
	}
	if n := r.Count(3); n != 3 {
		t.Errorf("Count: %d", n)
	}
	if s := r.Text(4); s != "text" {
		t.Errorf("Text: %q", s)
	}
	if got := r.Batch(); !reflect.DeepEqual(got, batch) {
		t.Errorf("Batch: %v", got)
	}
	if r.Done() {
		t.Error("done ahead of the last text")
	}
	if s := r.Text(0); s != "" || !r.Done() {
		t.Errorf("the last text: %q, %v", s, r.Done())
	}
}

func TestReaderOfNothingIsDone(t *testing.T) {
	if !pieces.Read("").Done() || pieces.Read("\x00").Done() {
		t.Error("nothing, and one byte")
	}
}

// TestReaderStaysWrong has a right int, a right text and a right batch behind what is wrong: none of them is told.
func TestReaderStaysWrong(t *testing.T) {
	frame, _ := wire.Batch(api.Batch{Records: make([]api.Record, 1)})
	for what, c := range map[string]struct {
		b     string
		wrong func(*pieces.Reader) bool
	}{
		"no int":                    {"", func(r *pieces.Reader) bool { return r.Int() == 0 }},
		"an int that is cut":        {"\x80", func(r *pieces.Reader) bool { return r.Int() == 0 }},
		"an int of another form":    {"\x80\x00\x02", func(r *pieces.Reader) bool { return r.Int() == 0 }},
		"a count below 0":           {"\x01\x02", func(r *pieces.Reader) bool { return r.Count(9) == 0 }},
		"a count of too many":       {"\x06\x02", func(r *pieces.Reader) bool { return r.Count(2) == 0 }},
		"the greatest count":        {plainInt(math.MaxInt) + "\x02", func(r *pieces.Reader) bool { return r.Count(2) == 0 }},
		"a text that is too long":   {"\x06abc\x02", func(r *pieces.Reader) bool { return r.Text(2) == "" }},
		"a text that is cut":        {"\x08abc", func(r *pieces.Reader) bool { return r.Text(9) == "" }},
		"a text of less than 0":     {"\x01abc", func(r *pieces.Reader) bool { return r.Text(9) == "" }},
		"a text of the most bytes":  {plainInt(math.MaxInt) + "abc", func(r *pieces.Reader) bool { return r.Text(math.MaxInt) == "" }},
		"a batch that is cut":       {frame[:len(frame)-1], func(r *pieces.Reader) bool { return r.Batch().Records == nil }},
		"a batch of another sum":    {"\x00\x00\x00\x01\x00\x00\x00\x00\x02" + frame, func(r *pieces.Reader) bool { return r.Batch().Records == nil }},
		"no batch, and one":         {"\x00\x00\x00\x00\x00\x00\x00\x00" + frame, func(r *pieces.Reader) bool { return r.Batch().Records == nil }},
		"a count of ten bytes more": {"\xff\xff\xff\xff\xff\xff\xff\xff\xff\xff\x01", func(r *pieces.Reader) bool { return r.Count(9) == 0 }},
	} {
		r := pieces.Read(c.b)
		if !c.wrong(r) || r.Done() {
			t.Errorf("%s: something is told, or all is done", what)
		}
		if n, s, b := r.Int(), r.Text(9), r.Batch(); n != 0 || s != "" || b.Records != nil || r.Count(9) != 0 || r.Done() {
			t.Errorf("%s: %d, %q, %v told behind it", what, n, s, b)
		}
	}
}
