package rpc_test

import (
	"math/bits"
	"math/rand"
	"strconv"
	"strings"
	"testing"

	"logboom/api"
	"logboom/rpc"
)

// R4.2

// TestEncodeOfEachPartAlone has its bytes written out: what the sum of a part's number is as an int, and what the part is.
func TestEncodeOfEachPartAlone(t *testing.T) {
	batch, sum := "\x06\x00\x00\x00\x00\x02\x0a\x02k\x00", "\x00\x00\x00\x0a"
	for _, c := range []struct {
		m    api.Msg
		body string
	}{
		{api.Msg{Kind: 1}, "\x02\x00"},
		{api.Msg{Kind: 28}, "\x38\x00"},
		{api.Msg{Kind: 1, From: 1}, "\x02\x02\x02"},
		{api.Msg{Kind: 1, To: 2}, "\x02\x04\x04"},
		{api.Msg{Kind: 1, Id: -1}, "\x02\x08\x01"},
		{api.Msg{Kind: 1, Part: 4}, "\x02\x10\x08"},
		{api.Msg{Kind: 1, Epoch: 5}, "\x02\x20\x0a"},
		{api.Msg{Kind: 1, Offset: 63}, "\x02\x40\x7e"},
		{api.Msg{Kind: 1, Last: 64}, "\x02\x80\x01\x80\x01"},
		{api.Msg{Kind: 1, Start: 8}, "\x02\x80\x02\x10"},
		{api.Msg{Kind: 1, High: 9}, "\x02\x80\x04\x12"},
		{api.Msg{Kind: 1, Term: 10}, "\x02\x80\x08\x14"},
		{api.Msg{Kind: 1, Index: 11}, "\x02\x80\x10\x16"},
		{api.Msg{Kind: 1, Pid: 12}, "\x02\x80\x20\x18"},
		{api.Msg{Kind: 1, PidEpoch: 13}, "\x02\x80\x40\x1a"},
		{api.Msg{Kind: 1, Seq: 14}, "\x02\x80\x80\x01\x1c"},
		{api.Msg{Kind: 2, Err: 23}, "\x04\x80\x80\x02\x2e"},
		{api.Msg{Kind: 1, Name: "ab"}, "\x02\x80\x80\x04\x04ab"},
		{api.Msg{Kind: 1, Text: "\x00"}, "\x02\x80\x80\x08\x02\x00"},
		{api.Msg{Kind: 1, Batches: []api.Batch{{Base: 3, Records: []api.Record{{Key: "k", Time: 5}}}}}, "\x02\x80\x80\x10\x02" + sum + plainFour(plainSum(batch)) + batch},
		{api.Msg{Kind: 1, Entries: []api.Entry{{Term: 1, Index: 64, Data: "dat"}, {}}}, "\x02\x80\x80\x20\x04\x02\x80\x01\x06dat\x00\x00\x00"},
		{api.Msg{Kind: 1, Ints: []int{0, -1, 65}}, "\x02\x80\x80\x40\x06\x00\x01\x82\x01"},
	} {
		wantRight(t, "a part alone", c.m, api.OK)
		s, _ := rpc.Encode(c.m)
		if want := "\x00\x00\x00" + string([]byte{byte(len(c.body))}) + plainFour(plainSum(c.body)) + c.body; s != want {
			t.Errorf("%v: got %q, want %q", c.m, s, want)
		}
	}
}

// TestEncodeOfSomeParts has each part there and not there: alone, with each other one, and with all others.
func TestEncodeOfSomeParts(t *testing.T) {
	all := 1<<len(partNames) - 1
	try := func(sum int) {
		t.Helper()
		m := only(sum)
		for i, name := range partNames {
			if isThere(m, name) != (sum>>i&1 == 1) {
				t.Fatalf("%s is there, or not, in %b", name, sum)
			}
		}
		wantRight(t, strconv.Itoa(bits.OnesCount(uint(sum)))+" parts", m, api.OK)
		s, _ := rpc.Encode(m)
		if !strings.HasPrefix(s[8:], plainInts(1, sum)) {
			t.Fatalf("the sum of parts is not %b: %q", sum, s)
		}
		wantDecode(t, s, m)
	}
	try(0)
	try(all)
	for i := range partNames {
		try(all &^ (1 << i))
		try(all &^ (1<<i - 1))
		try(1<<i - 1)
		for k := range partNames {
			try(1<<i | 1<<k)
			try(all &^ (1<<i | 1<<k))
		}
	}
	r := rand.New(rand.NewSource(2))
	for range 2000 {
		try(r.Intn(all + 1))
	}
}

func TestEncodeTellsTheBodysLengthInFourBytes(t *testing.T) {
	for size, want := range map[int]string{8 + 255: "\x00\x00\x00\xff", 8 + 256: "\x00\x00\x01\x00", 65535: "\x00\x00\xff\xf7", 65536: "\x00\x00\xff\xf8"} {
		s, e := rpc.Encode(sized(t, api.Msg{Kind: 1}, size))
		if e != api.OK || len(s) != size || s[:4] != want {
			t.Errorf("%d bytes, %q, %d, want %d, %q", len(s), s[:min(len(s), 4)], int(e), size, want)
		}
	}
}

func TestEncodeOfListsOfNothing(t *testing.T) {
	m := api.Msg{Kind: 3, Batches: []api.Batch{}, Entries: []api.Entry{}, Ints: []int{}}
	s, e := rpc.Encode(m)
	if e != api.OK || s[8:] != "\x06\x00" {
		t.Errorf("got %q, %d", s, int(e))
	}
	wantDecode(t, s, api.Msg{Kind: 3})
}

// R4.4

func TestAnswerOfEachKind(t *testing.T) {
	for kind := -31; kind < 35; kind++ {
		m := filled()
		m.Kind = kind
		want := api.Msg{}
		if kind >= 1 && kind <= 27 && kind%2 == 1 {
			want = api.Msg{Kind: kind + 1, From: 2, To: 1, Id: 3, Part: 4, Err: api.ErrGen}
		}
		if got := rpc.Answer(m, api.ErrGen); !same(got, want) {
			t.Errorf("Kind %d: got %v, want %v", kind, got, want)
		}
		want.Err = api.OK
		if got := rpc.Answer(m, api.OK); !same(got, want) {
			t.Errorf("Kind %d without an error: got %v, want %v", kind, got, want)
		}
	}
	for _, kind := range anyInts {
		if kind == 1 {
			continue
		}
		if got := rpc.Answer(api.Msg{Kind: kind, From: 1, Id: 2}, api.ErrArg); !same(got, api.Msg{}) {
			t.Errorf("Kind %d: got %v", kind, got)
		}
	}
}

// TestAnswerOfMessagesThatAreNotRight: what is taken over, and the error, may be any.
func TestAnswerOfMessagesThatAreNotRight(t *testing.T) {
	for _, n := range anyInts {
		m := api.Msg{Kind: 27, From: n, To: -n, Id: n ^ 5, Part: n - 1, Offset: n, Err: api.Errno(n), Name: xs(40), Ints: make([]int, 300)}
		for _, e := range anyInts {
			want := api.Msg{Kind: 28, From: -n, To: n, Id: n ^ 5, Part: n - 1, Err: api.Errno(e)}
			if got := rpc.Answer(m, api.Errno(e)); !same(got, want) {
				t.Errorf("got %v, want %v", got, want)
			}
		}
	}
}

// P3

func TestEncodeLeavesWhatIsHandedIn(t *testing.T) {
	m := filled()
	m.Batches = append(batches(1), api.Batch{Base: -1})[:1]
	m.Entries = []api.Entry{{Term: 1}, {Term: -1}}[:1]
	m.Ints = []int{5, 6, 7}[:2]
	wantRight(t, "lists with more behind them", m, api.OK)
	s, _ := rpc.Encode(m)
	rpc.Answer(m, api.OK)
	if m.Batches[:2][1].Base != -1 || m.Entries[:2][1].Term != -1 || m.Ints[:3][2] != 7 || m.Ints[0] != 5 || m.Entries[0].Term != 1 || m.Batches[0].Base != 0 {
		t.Error("a list was changed")
	}
	want := filled()
	want.Batches, want.Entries, want.Ints = batches(1), []api.Entry{{Term: 1}}, []int{5, 6}
	m.Batches[0].Records[0].Key, m.Entries[0].Term, m.Ints[0] = "other", 9, 9
	wantDecode(t, s, want)
}

func TestDecodeAnswersNewLists(t *testing.T) {
	s, _ := rpc.Encode(filled())
	m, _ := rpc.Decode(s)
	m.Batches[0].Records[0].Key, m.Entries[0].Data, m.Ints[0] = "other", "other", 77
	_, _, _ = append(m.Batches, api.Batch{}), append(m.Entries, api.Entry{}), append(m.Ints, 1)
	wantDecode(t, s, filled())
}

// The chapter's examples

func TestExamples(t *testing.T) {
	ask := api.Msg{Kind: api.VoteAsk, Term: 2}
	s, e := rpc.Encode(ask)
	// Term is part 9, and wire.Int of 512 is 128 8, as R4.2 has it; the row's 128 16 would be part 10's.
	if body := "\x02\x80\x08\x04"; e != api.OK || s != "\x00\x00\x00\x04"+plainFour(plainSum(body))+body {
		t.Errorf("got %q, %d", s, int(e))
	}
	wantDecode(t, s, ask)
	wantNoMsg(t, "without its last byte", s[:len(s)-1], api.ErrShort)
	wantNoMsg(t, "with one more", s+"x", api.ErrForm)
	wantRight(t, "Kind 29", api.Msg{Kind: 29}, api.ErrArg)
	wantRight(t, "Offset -2", api.Msg{Kind: 1, Offset: -2}, api.ErrArg)
	wantRight(t, "Err 24", api.Msg{Kind: 1, Err: 24}, api.ErrArg)
	wantRight(t, "a batch without records", api.Msg{Kind: 1, Batches: []api.Batch{{}}}, api.ErrArg)
	got := rpc.Answer(api.Msg{Kind: api.FetchAsk, From: 1, To: 2, Id: 7, Part: 3}, api.ErrLeader)
	if want := (api.Msg{Kind: api.FetchTell, From: 2, To: 1, Id: 7, Part: 3, Err: api.ErrLeader}); !same(got, want) {
		t.Errorf("got %v, want %v", got, want)
	}
}
