package rpc_test

import (
	"math"
	"math/rand"
	"strconv"
	"testing"

	"logboom/api"
	"logboom/rpc"
)

// R4.3

func TestDecodeOfFewerThanEightBytes(t *testing.T) {
	for _, s := range []string{"\x00\x00\x00\x00\x00\x00\x00", "\xff\xff\xff\xff\xff\xff\xff", "\x00\x00\xff\xf9\x00\x00\x00", framed("\x02\x00")[:7]} {
		for i := range len(s) + 1 {
			wantNoMsg(t, strconv.Itoa(i)+" bytes", s[:i], api.ErrShort)
		}
	}
}

func TestDecodeOfABodysLength(t *testing.T) {
	most, more := "\x00\x00\xff\xf8", "\x00\x00\xff\xf9"
	none := "\x00\x00\x00\x00"
	wantNoMsg(t, "65528, and nothing", most+none, api.ErrShort)
	wantNoMsg(t, "65528, less one", most+none+xs(65527), api.ErrShort)
	wantNoMsg(t, "65528, of another sum", most+none+xs(65528), api.ErrSum)
	wantNoMsg(t, "65528, and one more", most+none+xs(65529), api.ErrForm)
	wantNoMsg(t, "65528, of no form", framed(xs(65528)), api.ErrForm)
	for _, behind := range []int{0, 1, 65528, 65529, 65530} {
		wantNoMsg(t, "65529", more+none+xs(behind), api.ErrLong)
	}
	wantNoMsg(t, "65529, of no form", framed(xs(65529)), api.ErrLong)
	wantNoMsg(t, "65529, of a message that is too long", framed(plainBody(sized(t, api.Msg{Kind: 1}, 65537))), api.ErrLong)
	for _, length := range []string{"\x00\x01\x00\x00", "\x01\x00\x00\x00", "\x7f\xff\xff\xff", "\x80\x00\x00\x00", "\xff\xff\xff\xff"} {
		wantNoMsg(t, "a length", length+none, api.ErrLong)
		wantNoMsg(t, "a length", length+none+xs(70000), api.ErrLong)
	}
	for _, m := range []api.Msg{{Kind: 1}, filled()} {
		m = sized(t, m, 65536)
		wantDecode(t, framed(plainBody(m)), m)
	}
}

func TestDecodeOfALengthThatIsNotTheBodys(t *testing.T) {
	body := plainBody(filled())
	for n := range 2 * len(body) {
		s := plainFour(uint32(n)) + plainFour(plainSum(body)) + body
		switch {
		case n < len(body):
			wantNoMsg(t, "too short a length", s, api.ErrForm)
			wantNoMsg(t, "too short a length, cut", s[:8+n], api.ErrSum)
			wantNoMsg(t, "too short a length, cut and summed", framed(body[:n]), api.ErrForm)
		case n > len(body):
			more := xs(n - len(body))
			wantNoMsg(t, "too great a length", s, api.ErrShort)
			wantNoMsg(t, "too great a length, with bytes behind", s+more, api.ErrSum)
			wantNoMsg(t, "bytes behind the message, in its body", framed(body+more), api.ErrForm)
		}
	}
}

// TestDecodeTellsTheFirst: more bytes than the length says are told ahead of a sum, a sum ahead of the form.
func TestDecodeTellsTheFirst(t *testing.T) {
	for _, body := range []string{"", "x", xs(100), plainBody(api.Msg{Kind: 29})} {
		s := []byte(framed(body))
		s[7] ^= 1
		wantNoMsg(t, "no form", framed(body), api.ErrForm)
		wantNoMsg(t, "no sum and no form", string(s), api.ErrSum)
		wantNoMsg(t, "more, no sum and no form", string(s)+"x", api.ErrForm)
	}
	s := []byte(framed(plainBody(filled())))
	s[4] ^= 128
	wantNoMsg(t, "no sum", string(s), api.ErrSum)
	wantNoMsg(t, "more and no sum", string(s)+"\x00", api.ErrForm)
	wantNoMsg(t, "less and no sum", string(s[:len(s)-1]), api.ErrShort)
}

// TestDecodeOfPartsThatAreToldAndAreNot has each part, told to be there, as 0 or empty: alone and with all others.
func TestDecodeOfPartsThatAreToldAndAreNot(t *testing.T) {
	for i, name := range partNames {
		wantNoMsg(t, name+" of nothing", framed(plainInts(1, 1<<i)+"\x00"), api.ErrForm)
		wantNoMsg(t, name+", and no byte", framed(plainInts(1, 1<<i)), api.ErrForm)
		m, body := filled(), plainInts(filled().Kind, 1<<len(partNames)-1)
		for _, other := range partNames {
			if other == name {
				body += "\x00"
				continue
			}
			body += plainPart(m, other)
		}
		wantNoMsg(t, name+" of nothing, with all others", framed(body), api.ErrForm)
	}
}

func TestDecodeOfASumOfPartsThatAreNone(t *testing.T) {
	for i := len(partNames); i < 63; i++ {
		for _, behind := range []string{"", "\x00", "\x02", "\x02\x02"} {
			wantNoMsg(t, "a part of none", framed(plainInts(1, 1<<i)+behind), api.ErrForm)
			wantNoMsg(t, "one, and a part of none", framed(plainInts(1, 1<<i|1)+"\x02"+behind), api.ErrForm)
		}
	}
	for _, sum := range []int{-1, -2, -1 << 20, math.MinInt, math.MinInt | 1, math.MaxInt, 1 << 20} {
		body := plainInts(1, sum)
		wantNoMsg(t, "a sum "+strconv.Itoa(sum), framed(body), api.ErrForm)
		m := only(sum & (1<<len(partNames) - 1))
		for _, name := range partNames {
			if isThere(m, name) {
				body += plainPart(m, name)
			}
		}
		wantNoMsg(t, "a sum "+strconv.Itoa(sum)+" with its parts", framed(body), api.ErrForm)
	}
}

// wrongBodies are of the form of a message's, but of none that is right, or nearly of that form.
func wrongBodies() map[string]string {
	bit := func(name string) int {
		for i := range partNames {
			if partNames[i] == name {
				return 1 << i
			}
		}
		return 0
	}
	one := plainPart(api.Msg{Batches: batches(1)}, "Batches")
	return map[string]string{
		"nothing":                    "",
		"a kind":                     plainInt(1),
		"a kind of two forms":        "\x82\x00\x00",
		"a sum of two forms":         "\x02\x80\x00",
		"a number of two forms":      "\x02\x02\x82\x00",
		"a number that is cut":       "\x02\x02\x80",
		"a number of eleven bytes":   "\x02\x02\xff\xff\xff\xff\xff\xff\xff\xff\xff\x01\x00",
		"a byte behind":              "\x02\x00\x00",
		"a byte behind a part":       "\x02\x02\x02\x00",
		"a name of less than 0":      plainInts(1, bit("Name"), -1),
		"a name that is cut":         plainInts(1, bit("Name"), 4) + "abc",
		"a name of 33":               plainInts(1, bit("Name"), 33) + xs(33),
		"the longest of names":       plainInts(1, bit("Name"), math.MaxInt) + "abc",
		"a name's length, longer":    plainInts(1, bit("Name")) + "\x82\x00x",
		"a text of less than 0":      plainInts(1, bit("Text"), math.MinInt),
		"a text that is cut":         plainInts(1, bit("Text"), 4) + "abc",
		"the longest of texts":       plainInts(1, bit("Text"), math.MaxInt) + "abc",
		"less than no batches":       plainInts(1, bit("Batches"), -1),
		"one batch, and none":        plainInts(1, bit("Batches"), 1),
		"two batches, and one":       plainInts(1, bit("Batches"), 2) + one[1:],
		"one batch, and two":         plainInts(1, bit("Batches"), 1) + one[1:] + one[1:],
		"a batch that is cut":        plainInts(1, bit("Batches")) + one[:len(one)-1],
		"a batch of another sum":     plainInts(1, bit("Batches")) + one[:len(one)-1] + "z",
		"a batch without records":    plainInts(1, bit("Batches"), 1) + framed(plainInts(0, 0, 0, 0, 0, 0)),
		"65 batches":                 plainInts(1, bit("Batches")) + plainPart(api.Msg{Batches: batches(65)}, "Batches"),
		"the most batches":           plainInts(1, bit("Batches"), math.MaxInt) + one[1:],
		"less than no entries":       plainInts(1, bit("Entries"), -1),
		"one entry, and none":        plainInts(1, bit("Entries"), 1),
		"two entries, and one":       plainInts(1, bit("Entries"), 2, 0, 0, 0),
		"one entry, and two":         plainInts(1, bit("Entries"), 1, 0, 0, 0, 0, 0, 0),
		"an entry that is cut":       plainInts(1, bit("Entries"), 1, 0, 0),
		"data of less than 0":        plainInts(1, bit("Entries"), 1, 0, 0, -1),
		"data that is cut":           plainInts(1, bit("Entries"), 1, 0, 0, 4) + "abc",
		"data of 2049":               plainInts(1, bit("Entries"), 1, 0, 0, 2049) + xs(2049),
		"a term below 0":             plainInts(1, bit("Entries"), 1, -1, 0, 0),
		"a term above all":           plainInts(1, bit("Entries"), 1, 1000000001, 0, 0),
		"an index below 0":           plainInts(1, bit("Entries"), 1, 0, -1, 0),
		"an index above all":         plainInts(1, bit("Entries"), 1, 0, 1000000001, 0),
		"65 entries":                 plainInts(1, bit("Entries")) + plainPart(api.Msg{Entries: make([]api.Entry, 65)}, "Entries"),
		"the most entries":           plainInts(1, bit("Entries"), math.MaxInt, 0, 0, 0),
		"less than no ints":          plainInts(1, bit("Ints"), -1),
		"one int, and none":          plainInts(1, bit("Ints"), 1),
		"two ints, and one":          plainInts(1, bit("Ints"), 2, 0),
		"one int, and two":           plainInts(1, bit("Ints"), 1, 0, 0),
		"257 ints":                   plainInts(1, bit("Ints")) + plainPart(api.Msg{Ints: make([]int, 257)}, "Ints"),
		"the most ints":              plainInts(1, bit("Ints"), math.MaxInt, 0, 0),
		"an int of two forms":        plainInts(1, bit("Ints"), 1) + "\x80\x00",
		"parts in another order":     plainInts(1, bit("Name")|bit("Text")) + plainText("t"+xs(40)) + plainText("n"),
		"a part that is not told":    plainInts(1, bit("To"), 1, 2),
		"a part that is told, alone": plainInts(1, bit("From")|bit("To"), 1),
	}
}

func TestDecodeOfABodyThatIsNotRight(t *testing.T) {
	for what, body := range wrongBodies() {
		wantNoMsg(t, what, framed(body), api.ErrForm)
	}
	for _, name := range numberNames {
		for _, n := range []int{-2, 1000000001, math.MinInt, math.MaxInt} {
			m := filled()
			part(&m, name).SetInt(int64(n))
			wantNoMsg(t, name+" "+strconv.Itoa(n), framed(plainBody(m)), api.ErrForm)
		}
	}
	for _, n := range []int{0, 29, -1, math.MinInt, math.MaxInt} {
		m := filled()
		m.Kind = n
		wantNoMsg(t, "Kind "+strconv.Itoa(n), framed(plainBody(m)), api.ErrForm)
	}
	for _, n := range []int{24, -1, math.MinInt, math.MaxInt} {
		m := filled()
		m.Err = api.Errno(n)
		wantNoMsg(t, "Err "+strconv.Itoa(n), framed(plainBody(m)), api.ErrForm)
	}
}

func TestDecodeOfTheGreatestThatAreRight(t *testing.T) {
	for _, m := range []api.Msg{
		{Kind: 28, Name: xs(32), Batches: batches(64), Entries: make([]api.Entry, 64), Ints: make([]int, 256)},
		{Kind: 1, Entries: []api.Entry{{Term: 1000000000, Index: 1000000000, Data: xs(2048)}}},
		{Kind: 1, Ints: anyInts}, {Kind: 1, Text: xs(65000)}, {Kind: 27, Err: 23},
	} {
		wantDecode(t, framed(plainBody(m)), m)
	}
	for _, name := range numberNames {
		for _, n := range []int{-1, 1, 1000000000} {
			m := api.Msg{Kind: 1}
			part(&m, name).SetInt(int64(n))
			wantDecode(t, framed(plainBody(m)), m)
		}
	}
}

func TestDecodeOfTwistedBodies(t *testing.T) {
	r := rand.New(rand.NewSource(3))
	right := 0
	for range 20000 {
		m := chosenMsg(r)
		if len(m.Batches)+len(m.Entries) > 10 || len(m.Text) > 1000 {
			m.Batches, m.Entries, m.Text = nil, nil, ""
		}
		body := twisted(r, plainBody(m))
		want, ok := plainRead(body)
		if !ok {
			wantNoMsg(t, "a twisted body", framed(body), api.ErrForm)
			continue
		}
		right++
		wantDecode(t, framed(body), want)
	}
	if right < 500 {
		t.Errorf("%d were right in spite of it", right)
	}
}

func TestDecodeOfAnyBytes(t *testing.T) {
	r := rand.New(rand.NewSource(4))
	right := 0
	for range 30000 {
		if s := anyBytes(r, r.Intn(80)); len(s) > 0 {
			if m, e := rpc.Decode(s); e == api.OK || !same(m, api.Msg{}) {
				t.Errorf("Decode(%q): %v, %d", s, m, int(e))
			}
		}
		// Small bytes are what right bodies are mostly made of.
		body := []byte(anyBytes(r, r.Intn(12)))
		for i := range body {
			body[i] %= byte(chosenOf(r, 4, 4, 20, 60, 255))
		}
		want, ok := plainRead(string(body))
		if !ok {
			wantNoMsg(t, "any body", framed(string(body)), api.ErrForm)
			continue
		}
		right++
		wantDecode(t, framed(string(body)), want)
	}
	if right < 100 {
		t.Errorf("%d were right", right)
	}
}

// R4.5

func TestMessagesAreReadAsTheyWereWritten(t *testing.T) {
	r := rand.New(rand.NewSource(5))
	read := 0
	for range 3000 {
		m := chosenMsg(r)
		s, e := rpc.Encode(m)
		if e != api.OK {
			continue
		}
		read++
		wantDecode(t, s, m)
		again, e := rpc.Encode(must(t, s))
		if e != api.OK || again != s {
			t.Fatalf("what was read is written as %.300q, not as %.300q", again, s)
		}
	}
	if read < 1000 {
		t.Errorf("%d were written", read)
	}
}

func must(t *testing.T, s string) api.Msg {
	t.Helper()
	m, e := rpc.Decode(s)
	wantErr(t, "Decode", e, api.OK)
	return m
}

func TestMessagesThatAreCutOrHaveMoreBehind(t *testing.T) {
	r := rand.New(rand.NewSource(6))
	all := []api.Msg{{Kind: 1}, filled(), sized(t, filled(), 5000)}
	for len(all) < 40 {
		if m := chosenMsg(r); plainRight(m) == api.OK && len(plainBody(m)) < 2000 {
			all = append(all, m)
		}
	}
	for _, m := range all {
		s, _ := rpc.Encode(m)
		for i := range len(s) {
			wantNoMsg(t, "a cut", s[:i], api.ErrShort)
		}
		for _, behind := range []string{"\x00", "\xff", s, s[:1], xs(70000)} {
			wantNoMsg(t, "more behind", s+behind, api.ErrForm)
		}
	}
}

func TestMessagesWithAnotherByte(t *testing.T) {
	for _, m := range []api.Msg{{Kind: 1}, {Kind: 1, Term: 2}, filled()} {
		s, _ := rpc.Encode(m)
		for i := range len(s) {
			for by := 1; by < 256; by++ {
				other := []byte(s)
				other[i] ^= byte(by)
				if i >= 4 {
					wantNoMsg(t, "another byte", string(other), api.ErrSum)
				} else if _, e := rpc.Decode(string(other)); e == api.OK {
					t.Fatalf("another length %q is read", other[:4])
				}
			}
		}
	}
}

func TestALongMessageWithAnotherByte(t *testing.T) {
	s, _ := rpc.Encode(sized(t, filled(), 65536))
	for i := 4; i < len(s); i += 97 {
		other := []byte(s)
		other[i] ^= byte(1 << (i % 8))
		wantNoMsg(t, "another byte", string(other), api.ErrSum)
	}
}

// TestMessagesThatDifferHaveOtherBytes changes one part after the other.
func TestMessagesThatDifferHaveOtherBytes(t *testing.T) {
	other := api.Msg{
		Kind: 9, From: 21, To: 22, Id: 23, Part: 24, Epoch: 25, Offset: 26, Last: 27, Start: 28, High: 29, Term: 30, Index: 31, Pid: 32, PidEpoch: 33, Seq: 34,
		Err: 1, Name: "nam", Text: "eytext", Batches: batches(1), Entries: []api.Entry{{Term: 1, Index: 2, Data: "data"}}, Ints: []int{0, -1, 5},
	}
	seen := map[string]string{}
	note := func(what string, m api.Msg) {
		s, e := rpc.Encode(m)
		wantErr(t, what, e, api.OK)
		if seen[s] != "" {
			t.Fatalf("%s has the bytes of %s", what, seen[s])
		}
		seen[s] = what
	}
	note("all", filled())
	m := filled()
	m.Kind = other.Kind
	note("another kind", m)
	for _, name := range partNames {
		m, none := filled(), filled()
		part(&m, name).Set(part(&other, name))
		note("another "+name, m)
		part(&none, name).SetZero()
		note("no "+name, none)
		m = filled()
		one, none := api.Msg{Kind: 1}, api.Msg{Kind: 1}
		part(&one, name).Set(part(&m, name))
		part(&none, name).Set(part(&other, name))
		note(name+" alone", one)
		note("another "+name+" alone", none)
	}
}

func TestTwoMessagesHaveTheSameBytesJustIfTheyAreTheSame(t *testing.T) {
	r := rand.New(rand.NewSource(7))
	seen := map[string]api.Msg{}
	twice := 0
	for range 20000 {
		// Few kinds, few parts, few values: so that some are the same.
		m := only(1<<r.Intn(20) | 1<<r.Intn(20))
		m.Kind = 1 + r.Intn(2)
		m.From, m.To = m.From*r.Intn(2), m.To*r.Intn(3)
		m.Ints = append([]int{}, m.Ints[:r.Intn(len(m.Ints)+1)]...)
		s, e := rpc.Encode(m)
		wantErr(t, "Encode", e, api.OK)
		if was, ok := seen[s]; ok {
			twice++
			if !same(was, m) {
				t.Fatalf("%v and %v are both %q", was, m, s)
			}
		}
		seen[s] = m
	}
	all := make([]api.Msg, 0, len(seen))
	for _, m := range seen {
		all = append(all, m)
	}
	for i, a := range all {
		for _, b := range all[:i] {
			if same(a, b) {
				t.Fatalf("%v has two forms", a)
			}
		}
	}
	if twice < 1000 || len(all) < 100 {
		t.Errorf("%d twice, %d in all", twice, len(all))
	}
}
