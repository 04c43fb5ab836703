package rpc_test

import (
	"math"
	"math/rand"
	"strconv"
	"testing"

	"logboom/api"
	"logboom/rpc"
	"logboom/wire"
)

// R4.1

func TestRightOfKinds(t *testing.T) {
	for kind := -3; kind < 33; kind++ {
		want := api.OK
		if kind < 1 || kind > 28 {
			want = api.ErrArg
		}
		m := filled()
		m.Kind = kind
		wantRight(t, "Kind "+strconv.Itoa(kind), m, want)
		wantRight(t, "Kind "+strconv.Itoa(kind)+" alone", api.Msg{Kind: kind}, want)
	}
	for _, kind := range []int{math.MinInt, math.MaxInt, 1<<32 + 1} {
		wantRight(t, "Kind "+strconv.Itoa(kind), api.Msg{Kind: kind}, api.ErrArg)
	}
}

func TestRightOfNumbers(t *testing.T) {
	wants := map[int]api.Errno{
		-1: 0, 0: 0, 1: 0, 999999999: 0, 1000000000: 0,
		-2: api.ErrArg, 1000000001: api.ErrArg, math.MinInt: api.ErrArg, math.MaxInt: api.ErrArg, 1 << 32: api.ErrArg,
	}
	for _, name := range numberNames {
		for n, want := range wants {
			for _, m := range []api.Msg{{Kind: 28}, filled()} {
				part(&m, name).SetInt(int64(n))
				wantRight(t, name+" "+strconv.Itoa(n), m, want)
			}
		}
	}
}

func TestRightOfErr(t *testing.T) {
	for n := -2; n < 27; n++ {
		want := api.OK
		if n < 0 || n > 23 {
			want = api.ErrArg
		}
		wantRight(t, "Err "+strconv.Itoa(n), api.Msg{Kind: 2, Err: api.Errno(n)}, want)
	}
	wantRight(t, "the least Err", api.Msg{Kind: 2, Err: math.MinInt}, api.ErrArg)
	wantRight(t, "the greatest Err", api.Msg{Kind: 2, Err: math.MaxInt}, api.ErrArg)
}

func TestRightOfHowMany(t *testing.T) {
	for n, want := range map[int]api.Errno{0: 0, 1: 0, 63: 0, 64: 0, 65: api.ErrMany, 66: api.ErrMany, 100000: api.ErrMany} {
		what := strconv.Itoa(n)
		wantRight(t, what+" Batches", api.Msg{Kind: 1, Batches: batches(n)}, want)
		wantRight(t, what+" Entries", api.Msg{Kind: 1, Entries: make([]api.Entry, n)}, want)
	}
	for n, want := range map[int]api.Errno{0: 0, 1: 0, 64: 0, 65: 0, 255: 0, 256: 0, 257: api.ErrMany, 258: api.ErrMany, 100000: api.ErrMany} {
		wantRight(t, strconv.Itoa(n)+" Ints", api.Msg{Kind: 1, Ints: make([]int, n)}, want)
	}
	wantRight(t, "the most of each", api.Msg{Kind: 1, Batches: batches(64), Entries: make([]api.Entry, 64), Ints: make([]int, 256)}, api.OK)
}

func TestRightOfAnyInts(t *testing.T) {
	wantRight(t, "any ints", api.Msg{Kind: 1, Ints: anyInts}, api.OK)
}

func TestRightOfNames(t *testing.T) {
	for n, want := range map[int]api.Errno{0: 0, 1: 0, 31: 0, 32: 0, 33: api.ErrLong, 100000: api.ErrLong} {
		wantRight(t, "a name of "+strconv.Itoa(n), api.Msg{Kind: 1, Name: xs(n)}, want)
	}
	wantRight(t, "32 bytes of any", api.Msg{Kind: 1, Name: "\x00\xff" + xs(30)}, api.OK)
	wantRight(t, "33 bytes, 17 runes", api.Msg{Kind: 1, Name: "éééééééééééééééé" + "x"}, api.ErrLong)
}

func TestRightOfEveryBatch(t *testing.T) {
	over := api.Batch{Base: 1000000001, Records: make([]api.Record, 1)}
	for _, b := range []api.Batch{
		{}, {Base: -1, Records: make([]api.Record, 1)}, {Seq: 1, Records: make([]api.Record, 1)},
		{Records: make([]api.Record, 65)}, {Records: []api.Record{{Key: xs(1001)}}}, over,
		{Records: []api.Record{{Key: xs(1000), Value: xs(1000)}, {Key: xs(1000), Value: xs(1000)}, {Value: xs(100)}}},
	} {
		if wire.Right(b) == api.OK {
			t.Fatalf("%v is right", b)
		}
		for _, at := range []int{0, 1, 63} {
			list := batches(64)
			list[at] = b
			wantRight(t, "batch "+strconv.Itoa(at), api.Msg{Kind: 1, Batches: list}, wire.Right(b))
			if at < 63 { // the first one's is told
				list[at+1] = over
				wantRight(t, "and another behind it", api.Msg{Kind: 1, Batches: list}, wire.Right(b))
			}
		}
	}
}

func TestRightOfEveryEntry(t *testing.T) {
	for _, c := range []struct {
		e    api.Entry
		want api.Errno
	}{
		{api.Entry{Term: -1}, api.ErrArg}, {api.Entry{Term: 0}, api.OK}, {api.Entry{Term: 1000000000}, api.OK}, {api.Entry{Term: 1000000001}, api.ErrArg},
		{api.Entry{Index: -1}, api.ErrArg}, {api.Entry{Index: 0}, api.OK}, {api.Entry{Index: 1000000000}, api.OK}, {api.Entry{Index: 1000000001}, api.ErrArg},
		{api.Entry{Term: math.MinInt}, api.ErrArg}, {api.Entry{Term: math.MaxInt}, api.ErrArg}, {api.Entry{Index: math.MinInt}, api.ErrArg}, {api.Entry{Index: math.MaxInt}, api.ErrArg},
		{api.Entry{Data: xs(2047)}, api.OK}, {api.Entry{Data: xs(2048)}, api.OK}, {api.Entry{Data: xs(2049)}, api.ErrLong}, {api.Entry{Data: xs(100000)}, api.ErrLong},
		{api.Entry{Term: -1, Data: xs(2049)}, api.ErrArg}, {api.Entry{Index: 1000000001, Data: xs(2049)}, api.ErrArg},
		{api.Entry{Term: 1000000000, Index: 1000000000, Data: xs(2048)}, api.OK},
	} {
		for _, at := range []int{0, 1, 62, 63} {
			list := make([]api.Entry, 64)
			list[at] = c.e
			wantRight(t, "entry "+strconv.Itoa(at), api.Msg{Kind: 1, Entries: list}, c.want)
		}
	}
}

func TestRightTellsTheFirstEntrys(t *testing.T) {
	long, wrong := api.Entry{Data: xs(2049)}, api.Entry{Term: -1}
	wantRight(t, "a long one ahead", api.Msg{Kind: 1, Entries: []api.Entry{{}, long, wrong}}, api.ErrLong)
	wantRight(t, "a wrong one ahead", api.Msg{Kind: 1, Entries: []api.Entry{{}, wrong, long}}, api.ErrArg)
}

// sized is a message of so many bytes, by its Text.
func sized(t *testing.T, m api.Msg, size int) api.Msg {
	t.Helper()
	m.Text = xs(1000)
	m.Text = xs(1000 + size - len(framed(plainBody(m))))
	m.Text = xs(len(m.Text) + size - len(framed(plainBody(m))))
	if got := len(framed(plainBody(m))); got != size {
		t.Fatalf("%d bytes, not %d", got, size)
	}
	return m
}

func TestRightOfHowManyBytes(t *testing.T) {
	long := make([]api.Entry, 20)
	for i := range long {
		long[i].Data = xs(2048)
	}
	for what, m := range map[string]api.Msg{
		"a text": {Kind: 1}, "all parts": filled(), "entries": {Kind: 3, Entries: long}, "batches": {Kind: 8, Batches: batches(64)},
	} {
		wantRight(t, what+", 65535 bytes", sized(t, m, 65535), api.OK)
		wantRight(t, what+", 65536 bytes", sized(t, m, 65536), api.OK)
		wantRight(t, what+", 65537 bytes", sized(t, m, 65537), api.ErrLong)
		wantRight(t, what+", 65538 bytes", sized(t, m, 65538), api.ErrLong)
		wantRight(t, what+", 66000 bytes", sized(t, m, 66000), api.ErrLong)
	}
	for n, want := range map[int]api.Errno{65528: api.ErrLong, 65529: api.ErrLong, 1 << 20: api.ErrLong, 1 << 26: api.ErrLong} {
		wantErr(t, "a text of "+strconv.Itoa(n), rpc.Right(api.Msg{Kind: 1, Text: xs(n)}), want)
	}
}

// TestRightOfListsThatAreTooLongTogether has no text: each part is within its bounds, and the message is not.
func TestRightOfListsThatAreTooLongTogether(t *testing.T) {
	entries := make([]api.Entry, 64)
	for i := range entries {
		entries[i].Data = xs(2048)
	}
	wantRight(t, "31 long entries", api.Msg{Kind: 3, Entries: entries[:31]}, api.OK)
	wantRight(t, "32 long entries", api.Msg{Kind: 3, Entries: entries[:32]}, api.ErrLong)
	wantRight(t, "64 long entries", api.Msg{Kind: 3, Entries: entries}, api.ErrLong)
	long := batches(64)
	for i := range long {
		long[i].Records = []api.Record{{Key: xs(1000), Value: xs(1000)}, {Key: xs(1000), Value: xs(1000)}}
	}
	wantRight(t, "16 long batches", api.Msg{Kind: 3, Batches: long[:16]}, api.OK)
	wantRight(t, "17 long batches", api.Msg{Kind: 3, Batches: long[:17]}, api.ErrLong)
	wantRight(t, "64 long batches", api.Msg{Kind: 3, Batches: long}, api.ErrLong)
}

// TestRightTellsTheFirst takes one fault after the other from a message that has them all.
func TestRightTellsTheFirst(t *testing.T) {
	over := api.Batch{Base: 1000000001, Records: make([]api.Record, 1)}
	m := api.Msg{
		Kind: 29, Seq: -2, Err: 24, Name: xs(33), Text: xs(70000),
		Batches: append(batches(64), over), Entries: make([]api.Entry, 65), Ints: make([]int, 257),
	}
	m.Entries[0] = api.Entry{Data: xs(2049)}
	m.Entries[1] = api.Entry{Index: -1, Data: xs(2049)}
	wantRight(t, "a kind, and more", m, api.ErrArg)
	m.Kind = 28
	wantRight(t, "a number, and more", m, api.ErrArg)
	m.Seq = 0
	wantRight(t, "an Err, and more", m, api.ErrArg)
	m.Err = 23
	wantRight(t, "65 batches, and more", m, api.ErrMany)
	m.Batches = m.Batches[1:]
	wantRight(t, "65 entries, and more", m, api.ErrMany)
	m.Entries = m.Entries[:64]
	wantRight(t, "257 ints, and more", m, api.ErrMany)
	m.Ints = m.Ints[1:]
	wantRight(t, "a name, and more", m, api.ErrLong)
	m.Name = xs(32)
	wantRight(t, "a batch, and more", m, api.ErrOver)
	m.Batches = m.Batches[:63]
	m.Entries[0], m.Entries[1] = m.Entries[1], m.Entries[0]
	wantRight(t, "an entry's index, and more", m, api.ErrArg)
	m.Entries[0] = api.Entry{}
	wantRight(t, "an entry's data, and more", m, api.ErrLong)
	m.Entries[1] = api.Entry{}
	wantRight(t, "bytes", m, api.ErrLong)
	m.Text = xs(7000)
	wantRight(t, "nothing", m, api.OK)
}

// TestRightTellsOneFaultAheadOfAnother has two faults of different errors at once, wherever the document says which is first.
func TestRightTellsOneFaultAheadOfAnother(t *testing.T) {
	faults := []struct {
		put  func(*api.Msg)
		want api.Errno
	}{
		{func(m *api.Msg) { m.Kind = 0 }, api.ErrArg},
		{func(m *api.Msg) { m.From = -2 }, api.ErrArg},
		{func(m *api.Msg) { m.High = 1000000001 }, api.ErrArg},
		{func(m *api.Msg) { m.Err = -1 }, api.ErrArg},
		{func(m *api.Msg) { m.Ints = make([]int, 257) }, api.ErrMany},
		{func(m *api.Msg) { m.Name = xs(33) }, api.ErrLong},
		{func(m *api.Msg) { m.Batches = []api.Batch{{Base: 1000000001, Records: make([]api.Record, 1)}} }, api.ErrOver},
		{func(m *api.Msg) { m.Entries = []api.Entry{{Term: -1}} }, api.ErrArg},
		{func(m *api.Msg) { m.Text = xs(70000) }, api.ErrLong},
	}
	for i, first := range faults {
		for _, second := range faults[i:] {
			m := api.Msg{Kind: 1}
			second.put(&m)
			first.put(&m)
			wantRight(t, "two faults", m, first.want)
		}
	}
}

func TestRightOfChosenMessages(t *testing.T) {
	met := map[api.Errno]int{}
	r := rand.New(rand.NewSource(1))
	for range 3000 {
		m := chosenMsg(r)
		want := plainRight(m)
		met[want]++
		wantRight(t, "a chosen message", m, want)
	}
	for _, e := range []api.Errno{api.OK, api.ErrArg, api.ErrMany, api.ErrLong, api.ErrOver} {
		if met[e] < 10 {
			t.Errorf("error %d was met %d times", int(e), met[e])
		}
	}
}
