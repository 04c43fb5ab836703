package wire_test

import (
	"math"
	"math/rand"
	"strconv"
	"testing"

	"logboom/api"
	"logboom/wire"
)

func wantMeta(t *testing.T, what string, m api.Meta, want api.Errno) {
	t.Helper()
	s, e := wire.Meta(m)
	wantErr(t, what, e, want)
	if want != api.OK && s != "" {
		t.Fatalf("%s: Meta told bytes with its error", what)
	}
	if want == api.OK && s != summed(plainMeta(m)) {
		t.Fatalf("%s: got %q, want %q", what, s, summed(plainMeta(m)))
	}
}

func wantReadMeta(t *testing.T, s string, want api.Meta) {
	t.Helper()
	if m, e := wire.ReadMeta(s); e != api.OK || !sameMeta(m, want) {
		t.Fatalf("ReadMeta(%q): got %#v, %d, want %#v", s, m, int(e), want)
	}
}

func wantNoMeta(t *testing.T, what, s string, want api.Errno) {
	t.Helper()
	m, e := wire.ReadMeta(s)
	wantErr(t, what, e, want)
	if !sameMeta(m, api.Meta{}) {
		t.Fatalf("%s: %#v told with an error", what, m)
	}
}

// fullest is a record that has as much of everything as may be.
func fullest() api.Meta {
	m := api.Meta{Kind: math.MinInt, A: math.MaxInt, B: math.MinInt, C: math.MaxInt, D: math.MinInt, Name: xs(32), Text: xs(1000)}
	for range 64 {
		m.List = append(m.List, math.MinInt)
	}
	return m
}

// W3.6

func TestMetaTellsItsPartsInOrder(t *testing.T) {
	s, e := wire.Meta(api.Meta{Kind: 1, A: 2, B: 3, C: 4, D: -5, Name: "nn", Text: "t\x00\xff", List: []int{7, -1, 64}})
	body := "\x02\x04\x06\x08\x09" + "\x04nn" + "\x06t\x00\xff" + "\x06\x0e\x01\x80\x01"
	if want := plainFour(plainSum(body)) + body; s != want || e != api.OK {
		t.Errorf("got %q, %v, want %q", s, e, want)
	}
}

func TestMetaOfNothing(t *testing.T) {
	body := "\x00\x00\x00\x00\x00\x00\x00\x00"
	s, e := wire.Meta(api.Meta{})
	if s != plainFour(plainSum(body))+body || e != api.OK {
		t.Errorf("got %q, %v", s, e)
	}
	wantReadMeta(t, s, api.Meta{})
	wantMeta(t, "a list of nothing", api.Meta{List: []int{}}, api.OK)
}

func TestMetaOfAnyNumbers(t *testing.T) {
	for _, n := range anyInts {
		for _, m := range []api.Meta{{Kind: n}, {A: n}, {B: n}, {C: n}, {D: n}, {List: []int{n}}, {List: []int{1, n, 2}}} {
			wantMeta(t, strconv.Itoa(n), m, api.OK)
			wantReadMeta(t, summed(plainMeta(m)), m)
		}
	}
}

func TestMetaAtItsBounds(t *testing.T) {
	for n, want := range map[int]api.Errno{0: 0, 1: 0, 31: 0, 32: 0, 33: api.ErrLong, 1000: api.ErrLong, 100000: api.ErrLong} {
		wantMeta(t, "Name of "+strconv.Itoa(n), api.Meta{Name: xs(n)}, want)
	}
	for n, want := range map[int]api.Errno{0: 0, 1: 0, 999: 0, 1000: 0, 1001: api.ErrLong, 100000: api.ErrLong} {
		wantMeta(t, "Text of "+strconv.Itoa(n), api.Meta{Text: xs(n)}, want)
	}
	for n, want := range map[int]api.Errno{0: 0, 1: 0, 63: 0, 64: 0, 65: api.ErrMany, 100000: api.ErrMany} {
		wantMeta(t, "List of "+strconv.Itoa(n), api.Meta{List: make([]int, n)}, want)
	}
}

func TestMetaTellsTheFirst(t *testing.T) {
	many := make([]int, 65)
	wantMeta(t, "a name, and more", api.Meta{Name: xs(33), List: many}, api.ErrLong)
	wantMeta(t, "a text, and more", api.Meta{Text: xs(1001), List: many}, api.ErrLong)
	wantMeta(t, "both", api.Meta{Name: xs(33), Text: xs(1001)}, api.ErrLong)
	wantMeta(t, "numbers alone", api.Meta{Name: xs(32), Text: xs(1000), List: many}, api.ErrMany)
	// So many numbers are too many bytes, too, which is told later.
	for i := range many {
		many[i] = math.MaxInt
	}
	wantMeta(t, "numbers, and their bytes", api.Meta{Name: xs(32), Text: xs(1000), List: append(many, make([]int, 2000)...)}, api.ErrMany)
}

func TestTheFullestMetaIsNotTooLong(t *testing.T) {
	m := fullest()
	wantMeta(t, "the fullest", m, api.OK)
	s, _ := wire.Meta(m)
	if len(s) > 2048 {
		t.Errorf("it has %d bytes", len(s))
	}
	wantReadMeta(t, s, m)
}

func TestReadMetaOfFewerThanFourBytes(t *testing.T) {
	for _, s := range []string{"\x00\x00\x00", "\xff\xff\xff"} {
		for i := range len(s) + 1 {
			wantNoMeta(t, strconv.Itoa(i)+" bytes", s[:i], api.ErrShort)
		}
	}
	wantNoMeta(t, "four bytes of another sum", "\x00\x00\x00\x01", api.ErrSum)
	wantNoMeta(t, "four bytes", "\x00\x00\x00\x00", api.ErrForm)
}

func TestReadMetaOfTooManyBytes(t *testing.T) {
	wantNoMeta(t, "2048 of another sum", xs(2048), api.ErrSum)
	wantNoMeta(t, "2048 of no form", summed(xs(2044)), api.ErrForm)
	wantNoMeta(t, "2049 of another sum", xs(2049), api.ErrLong)
	wantNoMeta(t, "2049 of no form", summed(xs(2045)), api.ErrLong)
	wantNoMeta(t, "many", xs(100000), api.ErrLong)
	behind := plainMeta(fullest())
	wantNoMeta(t, "2048 with something behind", summed(behind+xs(2044-len(behind))), api.ErrForm)
	wantNoMeta(t, "2049 with something behind", summed(behind+xs(2045-len(behind))), api.ErrLong)
}

func TestReadMetaTellsTheSumAheadOfTheForm(t *testing.T) {
	for _, body := range []string{"", "x", xs(100)} {
		s := []byte(summed(body))
		s[3] ^= 1
		wantNoMeta(t, "no sum and no form", string(s), api.ErrSum)
	}
}

func TestReadMetaOfSomethingBehindIt(t *testing.T) {
	for _, m := range []api.Meta{{}, {Kind: 1, Name: "n", Text: "t", List: []int{1, 2}}, fullest()} {
		body := plainMeta(m)
		for _, behind := range []string{"\x00", "\x01", "\x80", "xx", summed(body)} {
			wantNoMeta(t, "something behind its bytes", summed(body)+behind, orLong(len(body)+4+len(behind), api.ErrSum))
			wantNoMeta(t, "something behind its body", summed(body+behind), orLong(len(body)+4+len(behind), api.ErrForm))
		}
	}
}

// orLong is the error of so many bytes: ErrLong, if they are too many.
func orLong(n int, e api.Errno) api.Errno {
	if n > 2048 {
		return api.ErrLong
	}
	return e
}

func TestReadMetaOfABodyThatMetaDoesNotWrite(t *testing.T) {
	for what, body := range map[string]string{
		"nothing":                    "",
		"four numbers":               plainInts(0, 0, 0, 0),
		"five numbers":               plainInts(0, 0, 0, 0, 0),
		"no text":                    plainInts(0, 0, 0, 0, 0, 0),
		"no list":                    plainInts(0, 0, 0, 0, 0, 0, 0),
		"a name of 33":               plainMeta(api.Meta{Name: xs(33)}),
		"a name below 0":             plainInts(0, 0, 0, 0, 0, -1, 0, 0),
		"the shortest name":          plainInts(0, 0, 0, 0, 0, math.MinInt, 0, 0),
		"the longest name":           plainInts(0, 0, 0, 0, 0, math.MaxInt, 0, 0),
		"a name that is cut":         plainInts(0, 0, 0, 0, 0, 4) + "abc",
		"a text of 1001":             plainMeta(api.Meta{Text: xs(1001)}),
		"a text below 0":             plainInts(0, 0, 0, 0, 0, 0, -1, 0),
		"the longest text":           plainInts(0, 0, 0, 0, 0, 0, math.MaxInt, 0),
		"a text that is cut":         plainInts(0, 0, 0, 0, 0, 0, 4) + "abc",
		"65 numbers":                 plainMeta(api.Meta{List: make([]int, 65)}),
		"fewer than no numbers":      plainInts(0, 0, 0, 0, 0, 0, 0, -1),
		"the most of numbers":        plainInts(0, 0, 0, 0, 0, 0, 0, math.MaxInt),
		"two numbers, and one":       plainInts(0, 0, 0, 0, 0, 0, 0, 2, 1),
		"one number, and two":        plainInts(0, 0, 0, 0, 0, 0, 0, 1, 1, 1),
		"a number that is cut":       plainInts(0, 0, 0, 0, 0, 0, 0, 1) + "\x80",
		"a number of two forms":      "\x80\x00" + plainInts(0, 0, 0, 0, 0, 0, 0),
		"a list's number of two":     plainInts(0, 0, 0, 0, 0, 0, 0, 1) + "\x80\x00",
		"a number of eleven":         "\xff\xff\xff\xff\xff\xff\xff\xff\xff\x81\x01" + plainInts(0, 0, 0, 0, 0, 0, 0),
		"a text's length, two forms": plainInts(0, 0, 0, 0, 0, 0) + "\x80\x00\x00",
	} {
		wantNoMeta(t, what, summed(body), api.ErrForm)
	}
}

func TestReadMetaOfTwistedBodies(t *testing.T) {
	r := rand.New(rand.NewSource(9))
	right := 0
	for range 20000 {
		body := twisted(r, plainMeta(chosenMeta(r)))
		if len(body) > 2044 {
			continue
		}
		want, ok := plainReadMetaBody(body)
		if !ok {
			wantNoMeta(t, "a twisted body", summed(body), api.ErrForm)
			continue
		}
		right++
		wantReadMeta(t, summed(body), want)
	}
	if right < 500 {
		t.Errorf("%d were right in spite of it", right)
	}
}

func TestReadMetaOfAnyBytes(t *testing.T) {
	r := rand.New(rand.NewSource(10))
	for range 20000 {
		s := anyBytes(r, 4+r.Intn(40))
		wantNoMeta(t, "any bytes", s, api.ErrSum)
		want, ok := plainReadMetaBody(s)
		if ok {
			wantReadMeta(t, summed(s), want)
		} else {
			wantNoMeta(t, "any body", summed(s), api.ErrForm)
		}
	}
}

// W3.7

func TestMetasAreReadAsTheyWereWritten(t *testing.T) {
	r := rand.New(rand.NewSource(11))
	read := 0
	for range 5000 {
		m := chosenMeta(r)
		s, e := wire.Meta(m)
		if e != api.OK {
			continue
		}
		read++
		wantMeta(t, "a chosen record", m, api.OK)
		wantReadMeta(t, s, m)
	}
	if read < 1000 {
		t.Errorf("%d were written", read)
	}
}

func TestMetasThatAreCutOrHaveAnotherByte(t *testing.T) {
	s, _ := wire.Meta(api.Meta{Kind: 3, A: 1000, B: -1, Name: "name", Text: "text", List: []int{1, 2, 300}})
	for i := range len(s) {
		want := api.ErrSum
		if i < 4 {
			want = api.ErrShort
		}
		wantNoMeta(t, strconv.Itoa(i)+" bytes", s[:i], want)
		for by := 1; by < 256; by++ {
			other := []byte(s)
			other[i] ^= byte(by)
			wantNoMeta(t, "another byte", string(other), api.ErrSum)
		}
	}
}

// P3

func TestMetaLeavesWhatIsHandedIn(t *testing.T) {
	list := []int{1, 2, 3}
	m := api.Meta{List: list[:2]}
	wantMeta(t, "a list with more behind it", m, api.OK)
	s, _ := wire.Meta(m)
	if list[0] != 1 || list[1] != 2 || list[2] != 3 {
		t.Errorf("the list became %v", list)
	}
	list[0] = 9
	wantReadMeta(t, s, api.Meta{List: []int{1, 2}})
}

func TestReadMetaAnswersANewList(t *testing.T) {
	want := api.Meta{List: []int{1, 2, 3}}
	s, _ := wire.Meta(want)
	first, _ := wire.ReadMeta(s)
	first.List[0] = 9
	_ = append(first.List, 10)
	wantReadMeta(t, s, want)
}
