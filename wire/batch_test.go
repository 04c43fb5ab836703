package wire_test

import (
	"math"
	"math/rand"
	"strconv"
	"strings"
	"testing"

	"logboom/api"
	"logboom/wire"
)

func xs(n int) string { return strings.Repeat("x", n) }

// some are records of nothing.
func some(n int) []api.Record { return make([]api.Record, n) }

// sized is a batch of so many bytes, of three records.
func sized(t *testing.T, size int) api.Batch {
	t.Helper()
	full := api.Record{Key: xs(1000), Value: xs(1000)}
	for n := range 1000 {
		b := api.Batch{Records: []api.Record{full, full, {Value: xs(n)}}}
		if 8+len(plainBody(b)) == size {
			return b
		}
	}
	t.Fatalf("no batch of %d bytes", size)
	return api.Batch{}
}

// with is a batch of one record, changed.
func with(change func(*api.Batch)) api.Batch {
	b := api.Batch{Base: 5, Epoch: 2, Pid: 3, PidEpoch: 1, Seq: 7, Records: []api.Record{{Key: "k", Value: "v", Time: 3}}}
	change(&b)
	return b
}

// wantRight holds Right and Batch against an error, or, if there is none, against the document's bytes.
func wantRight(t *testing.T, what string, b api.Batch, want api.Errno) {
	t.Helper()
	wantErr(t, what+": Right", wire.Right(b), want)
	s, e := wire.Batch(b)
	wantErr(t, what+": Batch", e, want)
	if want != api.OK && s != "" {
		t.Fatalf("%s: Batch told bytes with its error", what)
	}
	if want == api.OK && s != framed(plainBody(b)) {
		t.Fatalf("%s: got %q, want %q", what, s, framed(plainBody(b)))
	}
}

func wantReadBatch(t *testing.T, s string, want api.Batch, size int) {
	t.Helper()
	b, n, e := wire.ReadBatch(s)
	if e != api.OK || n != size || !sameBatch(b, want) {
		t.Fatalf("ReadBatch(%q): got %#v, %d, %d, want %#v, %d", s, b, n, int(e), want, size)
	}
}

func wantNoBatch(t *testing.T, what, s string, want api.Errno) {
	t.Helper()
	b, n, e := wire.ReadBatch(s)
	wantErr(t, what, e, want)
	if n != 0 || !sameBatch(b, api.Batch{}) {
		t.Fatalf("%s: %#v, %d told with an error", what, b, n)
	}
}

// W3.3

func TestRightOfNumbersAtTheirBounds(t *testing.T) {
	for _, c := range []struct {
		what string
		at   func(*api.Batch) *int
		most int
	}{
		{"Epoch", func(b *api.Batch) *int { return &b.Epoch }, 1000000000},
		{"Pid", func(b *api.Batch) *int { return &b.Pid }, 1000000000},
		{"PidEpoch", func(b *api.Batch) *int { return &b.PidEpoch }, 1000000000},
		{"Time", func(b *api.Batch) *int { return &b.Records[0].Time }, 1000000000},
	} {
		for _, n := range []int{1, 2, 999999999, c.most} {
			wantRight(t, c.what+" "+strconv.Itoa(n), with(func(b *api.Batch) { *c.at(b) = n }), api.OK)
		}
		for _, n := range []int{-1, math.MinInt, c.most + 1, math.MaxInt} {
			wantRight(t, c.what+" "+strconv.Itoa(n), with(func(b *api.Batch) { *c.at(b) = n }), api.ErrArg)
		}
	}
	wantRight(t, "Epoch 0", with(func(b *api.Batch) { b.Epoch = 0 }), api.OK)
	wantRight(t, "PidEpoch 0", with(func(b *api.Batch) { b.PidEpoch = 0 }), api.OK)
	wantRight(t, "Time 0", with(func(b *api.Batch) { b.Records[0].Time = 0 }), api.OK)
}

func TestRightOfBaseAndSeq(t *testing.T) {
	for n, want := range map[int]api.Errno{0: 0, 1: 0, 1000000000: 0, 1000000001: api.ErrOver, math.MaxInt: api.ErrOver, -1: api.ErrArg, math.MinInt: api.ErrArg} {
		wantRight(t, "Base "+strconv.Itoa(n), with(func(b *api.Batch) { b.Base = n }), want)
	}
	for n, want := range map[int]api.Errno{0: 0, 1: 0, 1000000: 0, 1000001: api.ErrOver, 1000000000: api.ErrOver, 1000000001: api.ErrArg, math.MaxInt: api.ErrArg, -1: api.ErrArg, math.MinInt: api.ErrArg} {
		wantRight(t, "Seq "+strconv.Itoa(n), with(func(b *api.Batch) { b.Seq = n }), want)
	}
}

func TestRightOfTheLastRecordsOffsetAndSequence(t *testing.T) {
	for _, n := range []int{1, 2, 3, 63, 64} {
		what := strconv.Itoa(n) + " records"
		wantRight(t, what+" to the last offset", api.Batch{Base: 1000000001 - n, Records: some(n)}, api.OK)
		wantRight(t, what+" over it", api.Batch{Base: 1000000002 - n, Records: some(n)}, api.ErrOver)
		wantRight(t, what+" to the last sequence", api.Batch{Pid: 1, Seq: 1000001 - n, Records: some(n)}, api.OK)
		wantRight(t, what+" over it", api.Batch{Pid: 1, Seq: 1000002 - n, Records: some(n)}, api.ErrOver)
		// A sum that went round would be below 0, and not above.
		wantRight(t, what+" from the greatest int", api.Batch{Base: math.MaxInt, Records: some(n)}, api.ErrOver)
		wantRight(t, what+" up to it", api.Batch{Base: math.MaxInt - n + 1, Records: some(n)}, api.ErrOver)
	}
}

func TestRightOfNoProducer(t *testing.T) {
	none := func(pidEpoch, seq int) api.Batch { return api.Batch{PidEpoch: pidEpoch, Seq: seq, Records: some(1)} }
	wantRight(t, "of no producer", none(0, 0), api.OK)
	wantRight(t, "with an epoch", none(1, 0), api.ErrArg)
	wantRight(t, "with a sequence", none(0, 1), api.ErrArg)
	wantRight(t, "with both", none(1, 1), api.ErrArg)
	wantRight(t, "with a sequence over all", none(0, 1000001), api.ErrArg)
}

func TestRightOfHowManyRecords(t *testing.T) {
	for n, want := range map[int]api.Errno{0: api.ErrArg, 1: 0, 2: 0, 63: 0, 64: 0, 65: api.ErrMany, 100000: api.ErrMany} {
		wantRight(t, strconv.Itoa(n)+" records", api.Batch{Records: some(n)}, want)
	}
	wantRight(t, "no list", api.Batch{}, api.ErrArg)
}

func TestRightOfEveryRecord(t *testing.T) {
	for _, at := range []int{0, 1, 62, 63} {
		for _, c := range []struct {
			r    api.Record
			want api.Errno
		}{
			{api.Record{Time: -1}, api.ErrArg}, {api.Record{Time: 1000000001}, api.ErrArg}, {api.Record{Time: 1000000000}, api.OK},
			{api.Record{Key: xs(1000)}, api.OK}, {api.Record{Value: xs(1000)}, api.OK},
			{api.Record{Key: xs(1001)}, api.ErrLong}, {api.Record{Value: xs(1001)}, api.ErrLong},
			{api.Record{Key: xs(100000)}, api.ErrLong}, {api.Record{Key: xs(1000), Value: xs(1000)}, api.OK},
		} {
			records := some(64)
			records[at] = c.r
			wantRight(t, "record "+strconv.Itoa(at), api.Batch{Records: records}, c.want)
		}
	}
}

func TestRightOfHowManyBytes(t *testing.T) {
	wantRight(t, "4095 bytes", sized(t, 4095), api.OK)
	wantRight(t, "4096 bytes", sized(t, 4096), api.OK)
	wantRight(t, "4097 bytes", sized(t, 4097), api.ErrLong)
	wantRight(t, "4098 bytes", sized(t, 4098), api.ErrLong)
	full := some(64)
	for i := range full {
		full[i] = api.Record{Key: xs(1000), Value: xs(1000)}
	}
	wantRight(t, "all that is full", api.Batch{Records: full}, api.ErrLong)
}

// TestRightTellsTheFirst takes one fault after the other from a batch that has them all.
func TestRightTellsTheFirst(t *testing.T) {
	records := some(65)
	records[64] = api.Record{Key: xs(1001), Value: xs(1001), Time: -1}
	b := api.Batch{Base: 1000000001, Seq: 1000001, Records: records}
	wantRight(t, "a sequence of nobody, and more", b, api.ErrArg)
	b.Pid = 1
	wantRight(t, "a time, and more", b, api.ErrArg)
	records[64].Time = 0
	wantRight(t, "65 records, and more", b, api.ErrMany)
	b.Records = records[1:]
	b.Records[0] = api.Record{Value: xs(1000)}
	b.Records[1], b.Records[2], b.Records[3] = b.Records[0], b.Records[0], b.Records[0]
	wantRight(t, "a key and a value, and more", b, api.ErrLong)
	records[64].Key = ""
	wantRight(t, "a value, and more", b, api.ErrLong)
	records[64].Value = ""
	wantRight(t, "a base, and more", b, api.ErrOver)
	b.Base = 0
	wantRight(t, "a sequence, and more", b, api.ErrOver)
	b.Seq = 0
	wantRight(t, "bytes", b, api.ErrLong)
	b.Records[0].Value = ""
	wantRight(t, "nothing", b, api.OK)
}

func TestRightTellsWrongNumbersAheadOfAllElse(t *testing.T) {
	long := []api.Record{{Key: xs(1001)}}
	for _, b := range []api.Batch{
		{Base: -1, Records: some(65)}, {Epoch: 1000000001, Records: some(65)}, {Pid: -1, Records: some(65)},
		{Pid: 1, PidEpoch: -1, Records: long}, {Pid: 1, Seq: 1000000001, Records: long}, {PidEpoch: 1, Records: long},
		{Base: math.MinInt, Pid: 1, Seq: 1000001, Records: some(1)}, {Base: 1000000001, Epoch: -1, Records: some(1)},
		{Base: 1000000001}, {Base: math.MaxInt, Pid: 1, Seq: 1000000},
	} {
		wantRight(t, "a wrong number, and more", b, api.ErrArg)
	}
	wantRight(t, "65 records over the last offset", api.Batch{Base: 1000000000, Records: some(65)}, api.ErrMany)
	wantRight(t, "a long key over the last offset", api.Batch{Base: math.MaxInt, Records: long}, api.ErrLong)
	over := sized(t, 4097)
	over.Base = 1000000000
	wantRight(t, "too many bytes over the last offset", over, api.ErrOver)
}

func TestRightOfChosenBatches(t *testing.T) {
	met := map[api.Errno]int{}
	r := rand.New(rand.NewSource(3))
	for range 5000 {
		b := chosenBatch(r)
		want := plainRight(b)
		met[want]++
		wantRight(t, "a chosen batch", b, want)
	}
	for _, e := range []api.Errno{api.OK, api.ErrArg, api.ErrMany, api.ErrLong, api.ErrOver} {
		if met[e] < 20 {
			t.Errorf("error %d was met %d times", int(e), met[e])
		}
	}
}

// W3.4

func TestBatchTellsItsNumbersInOrder(t *testing.T) {
	s, e := wire.Batch(api.Batch{Base: 1, Epoch: 2, Pid: 3, PidEpoch: 4, Seq: 5, Records: []api.Record{{Key: "kk", Value: "v", Time: 6}, {Key: "", Value: "\x00\xff", Time: 64}}})
	body := "\x02\x04\x06\x08\x0a\x04" + "\x0c\x04kk\x02v" + "\x80\x01\x00\x04\x00\xff"
	if want := "\x00\x00\x00\x12" + plainFour(plainSum(body)) + body; s != want || e != api.OK {
		t.Errorf("got %q, %v, want %q", s, e, want)
	}
}

func TestBatchTellsItsLengthInFourBytes(t *testing.T) {
	s, e := wire.Batch(sized(t, 4096))
	if len(s) != 4096 || e != api.OK || s[:4] != "\x00\x00\x0f\xf8" {
		t.Errorf("%d bytes, %q, %v", len(s), s[:min(len(s), 4)], e)
	}
}

// W3.5

func TestReadBatchOfFewerThanEightBytes(t *testing.T) {
	for _, s := range []string{"\x00\x00\x00\x00\x00\x00\x00", "\xff\xff\xff\xff\xff\xff\xff", "\x00\x00\x0f\xf9\x00\x00\x00"} {
		for i := range len(s) + 1 {
			wantNoBatch(t, strconv.Itoa(i)+" bytes", s[:i], api.ErrShort)
		}
	}
}

func TestReadBatchOfABodysLength(t *testing.T) {
	most, more := "\x00\x00\x0f\xf8", "\x00\x00\x0f\xf9"
	wantNoBatch(t, "4088, and nothing", most+"\x00\x00\x00\x00", api.ErrShort)
	wantNoBatch(t, "4088, less one", most+"\x00\x00\x00\x00"+xs(4087), api.ErrShort)
	wantNoBatch(t, "4088, of another sum", most+"\x00\x00\x00\x00"+xs(4088), api.ErrSum)
	wantNoBatch(t, "4088, of no form", framed(xs(4088)), api.ErrForm)
	wantNoBatch(t, "4089, and nothing", more+"\x00\x00\x00\x00", api.ErrLong)
	wantNoBatch(t, "4089, of another sum", more+"\x00\x00\x00\x00"+xs(4089), api.ErrLong)
	wantNoBatch(t, "4089, of no form", framed(xs(4089)), api.ErrLong)
	wantNoBatch(t, "4089, of a batch that is too long", framed(plainBody(sized(t, 4097))), api.ErrLong)
	for _, length := range []string{"\x00\x00\x10\x00", "\x00\x01\x00\x00", "\x01\x00\x00\x00", "\x7f\xff\xff\xff", "\x80\x00\x00\x00", "\xff\xff\xff\xff"} {
		wantNoBatch(t, "a length", length+"\x00\x00\x00\x00", api.ErrLong)
		wantNoBatch(t, "a length", length+"\x00\x00\x00\x00"+xs(5000), api.ErrLong)
	}
	b := sized(t, 4096)
	wantReadBatch(t, framed(plainBody(b)), b, 4096)
}

func TestReadBatchOfALengthThatIsNotTheBodys(t *testing.T) {
	body := plainBody(with(func(*api.Batch) {}))
	for n := range 2 * len(body) {
		s := plainFour(uint32(n)) + plainFour(plainSum(body)) + body
		switch {
		case n < len(body):
			wantNoBatch(t, "too short a length", s, api.ErrSum)
			wantNoBatch(t, "too short a length, summed", s[:4]+plainFour(plainSum(body[:n]))+body, api.ErrForm)
		case n > len(body):
			wantNoBatch(t, "too great a length", s, api.ErrShort)
			more := body + xs(n-len(body))
			wantNoBatch(t, "too great a length, with bytes behind", s+xs(n-len(body)), api.ErrSum)
			wantNoBatch(t, "bytes behind the batch, in its body", framed(more), api.ErrForm)
		}
	}
}

func TestReadBatchTellsTheSumAheadOfTheForm(t *testing.T) {
	for _, body := range []string{"", "x", xs(100), plainBody(api.Batch{})} {
		wantNoBatch(t, "no form", framed(body), api.ErrForm)
		s := []byte(framed(body))
		s[7] ^= 1
		wantNoBatch(t, "no sum and no form", string(s), api.ErrSum)
	}
}

// wrongBodies are of the form of a batch's, but of none that is right, or nearly of that form.
func wrongBodies() map[string]string {
	all := map[string]string{
		"nothing":                  "",
		"five numbers":             plainInts(0, 0, 0, 0, 0),
		"fewer than no records":    plainInts(0, 0, 0, 0, 0, -1),
		"the least of records":     plainInts(0, 0, 0, 0, 0, math.MinInt),
		"the most of records":      plainInts(0, 0, 0, 0, 0, math.MaxInt),
		"one record, and none":     plainInts(0, 0, 0, 0, 0, 1),
		"two records, and one":     plainInts(0, 0, 0, 0, 0, 2, 0, 0, 0),
		"one record, and two":      plainInts(0, 0, 0, 0, 0, 1, 0, 0, 0, 0, 0, 0),
		"a key of less than none":  plainInts(0, 0, 0, 0, 0, 1, 0, -1, 0),
		"the shortest of keys":     plainInts(0, 0, 0, 0, 0, 1, 0, math.MinInt, 0),
		"the longest of keys":      plainInts(0, 0, 0, 0, 0, 1, 0, math.MaxInt, 0),
		"a key that is cut":        plainInts(0, 0, 0, 0, 0, 1, 0, 4) + "abc",
		"a value of less than 0":   plainInts(0, 0, 0, 0, 0, 1, 0, 0, -1),
		"a value that is cut":      plainInts(0, 0, 0, 0, 0, 1, 0, 0, 4) + "abc",
		"the longest of values":    plainInts(0, 0, 0, 0, 0, 1, 0, 0, math.MaxInt),
		"a base of two forms":      "\x80\x00" + plainInts(0, 0, 0, 0, 1, 0, 0, 0),
		"a number of ten and more": "\xff\xff\xff\xff\xff\xff\xff\xff\xff\x02" + plainInts(0, 0, 0, 0, 1, 0, 0, 0),
		"a key's length, longer":   plainInts(0, 0, 0, 0, 0, 1, 0) + "\x82\x00k\x00",
		"one byte behind":          plainInts(0, 0, 0, 0, 0, 1, 0, 0, 0) + "\x00",
	}
	for what, b := range map[string]api.Batch{
		"a base below 0":          with(func(b *api.Batch) { b.Base = -1 }),
		"a base that is over":     with(func(b *api.Batch) { b.Base = 1000000001 }),
		"the greatest base":       with(func(b *api.Batch) { b.Base = math.MaxInt }),
		"an epoch below 0":        with(func(b *api.Batch) { b.Epoch = -1 }),
		"an epoch above all":      with(func(b *api.Batch) { b.Epoch = 1000000001 }),
		"a pid below 0":           with(func(b *api.Batch) { b.Pid = -1 }),
		"no pid, with the others": with(func(b *api.Batch) { b.Pid = 0 }),
		"a pid's epoch below 0":   with(func(b *api.Batch) { b.PidEpoch = -1 }),
		"a sequence below 0":      with(func(b *api.Batch) { b.Seq = -1 }),
		"a sequence that is over": with(func(b *api.Batch) { b.Seq = 1000001 }),
		"a time below 0":          with(func(b *api.Batch) { b.Records[0].Time = -1 }),
		"a time above all":        with(func(b *api.Batch) { b.Records[0].Time = 1000000001 }),
		"no records":              with(func(b *api.Batch) { b.Records = nil }),
		"65 records":              with(func(b *api.Batch) { b.Records = some(65) }),
		"a key of 1001":           with(func(b *api.Batch) { b.Records[0].Key = xs(1001) }),
		"a value of 1001":         with(func(b *api.Batch) { b.Records[0].Value = xs(1001) }),
		"two, the second over":    with(func(b *api.Batch) { b.Base, b.Records = 1000000000, some(2) }),
	} {
		all[what] = plainBody(b)
	}
	return all
}

func TestReadBatchOfABodyThatIsNotRight(t *testing.T) {
	for what, body := range wrongBodies() {
		wantNoBatch(t, what, framed(body), api.ErrForm)
		wantNoBatch(t, what+", with bytes behind", framed(body)+xs(100), api.ErrForm)
	}
}

func TestReadBatchOfTheGreatestThatAreRight(t *testing.T) {
	for _, b := range []api.Batch{
		{Base: 1000000000, Epoch: 1000000000, Pid: 1000000000, PidEpoch: 1000000000, Seq: 1000000, Records: []api.Record{{Key: xs(1000), Value: xs(1000), Time: 1000000000}}},
		{Base: 1000000000 - 63, Pid: 1, Seq: 1000000 - 63, Records: some(64)},
		{Records: some(1)}, {Records: some(64)},
	} {
		wantReadBatch(t, framed(plainBody(b)), b, 8+len(plainBody(b)))
	}
}

func TestReadBatchOfTwistedBodies(t *testing.T) {
	r := rand.New(rand.NewSource(4))
	right := 0
	for range 20000 {
		b := chosenBatch(r)
		body := twisted(r, plainBody(b))
		if len(body) > 4088 {
			continue
		}
		want, ok := plainReadBody(body)
		if !ok {
			wantNoBatch(t, "a twisted body", framed(body), api.ErrForm)
			continue
		}
		right++
		wantReadBatch(t, framed(body)+"x", want, 8+len(body))
	}
	if right < 500 {
		t.Errorf("%d were right in spite of it", right)
	}
}

func TestReadBatchOfAnyBytes(t *testing.T) {
	r := rand.New(rand.NewSource(5))
	for range 20000 {
		s := anyBytes(r, r.Intn(80))
		if _, n, e := wire.ReadBatch(s); e == api.OK || n != 0 {
			t.Errorf("ReadBatch(%q): %d, %v", s, n, e)
		}
		body := anyBytes(r, r.Intn(40))
		want, ok := plainReadBody(body)
		if ok {
			wantReadBatch(t, framed(body), want, 8+len(body))
		} else {
			wantNoBatch(t, "any body", framed(body), api.ErrForm)
		}
	}
}

// W3.7

func TestBatchesAreReadAsTheyWereWritten(t *testing.T) {
	r := rand.New(rand.NewSource(6))
	read := 0
	for range 3000 {
		b := chosenBatch(r)
		s, e := wire.Batch(b)
		if e != api.OK {
			continue
		}
		read++
		for _, behind := range []string{"", "\x00", "\xff", s, s[:len(s)/2], anyBytes(r, 5000)} {
			wantReadBatch(t, s+behind, b, len(s))
		}
	}
	if read < 300 {
		t.Errorf("%d were written", read)
	}
}

func TestBatchesBehindEachOther(t *testing.T) {
	r := rand.New(rand.NewSource(7))
	var all []api.Batch
	log := ""
	for len(all) < 200 {
		b := chosenBatch(r)
		if s, e := wire.Batch(b); e == api.OK {
			all = append(all, b)
			log += s
		}
	}
	for i, want := range all {
		b, n, e := wire.ReadBatch(log)
		if e != api.OK || !sameBatch(b, want) {
			t.Fatalf("batch %d: got %#v, %v, want %#v", i, b, e, want)
		}
		log = log[n:]
	}
	if log != "" {
		t.Errorf("%d bytes are left", len(log))
	}
}

func TestBatchesThatAreCut(t *testing.T) {
	r := rand.New(rand.NewSource(8))
	all := []api.Batch{sized(t, 4096), {Records: some(64)}, with(func(*api.Batch) {})}
	for range 50 {
		all = append(all, chosenBatch(r))
	}
	for _, b := range all {
		s, _ := wire.Batch(b)
		for i := range len(s) {
			if _, _, e := wire.ReadBatch(s[:i]); e != api.ErrShort {
				t.Fatalf("%d of %d bytes: %v", i, len(s), e)
			}
		}
	}
}

func TestBatchesWithAnotherByte(t *testing.T) {
	for _, b := range []api.Batch{{Records: some(1)}, with(func(*api.Batch) {}), {Base: 1000000000, Records: []api.Record{{Key: "key", Value: xs(70), Time: 1000}}}} {
		s, _ := wire.Batch(b)
		for i := 4; i < len(s); i++ {
			for by := 1; by < 256; by++ {
				other := []byte(s)
				other[i] ^= byte(by)
				wantNoBatch(t, "another byte", string(other), api.ErrSum)
				wantNoBatch(t, "another byte, with bytes behind", string(other)+"xx", api.ErrSum)
			}
		}
	}
}

func TestALongBatchWithAnotherByte(t *testing.T) {
	s, _ := wire.Batch(sized(t, 4096))
	for i := 4; i < len(s); i++ {
		other := []byte(s)
		other[i] ^= byte(1 << (i % 8))
		wantNoBatch(t, "another byte", string(other), api.ErrSum)
	}
}

// P3

func TestBatchLeavesWhatIsHandedIn(t *testing.T) {
	list := []api.Record{{Key: "a", Time: 1}, {Key: "b", Time: 2}, {Key: xs(1001), Time: -1}}
	kept := append([]api.Record(nil), list...)
	b := api.Batch{Records: list[:2]}
	wantRight(t, "a list with more behind it", b, api.OK)
	for i := range list {
		if list[i] != kept[i] {
			t.Errorf("record %d was changed", i)
		}
	}
	s, _ := wire.Batch(b)
	list[0] = api.Record{Key: "c"}
	wantReadBatch(t, s, api.Batch{Records: kept[:2]}, len(s))
}

func TestReadBatchAnswersANewList(t *testing.T) {
	want := with(func(b *api.Batch) { b.Records = []api.Record{{Key: "a"}, {Key: "b"}, {Key: "c"}} })
	s, _ := wire.Batch(want)
	first, _, _ := wire.ReadBatch(s)
	first.Records[0].Key = "changed"
	_ = append(first.Records, api.Record{Key: "more"})
	wantReadBatch(t, s, want, len(s))
}

// The chapter's examples

func TestExamplesOfBatches(t *testing.T) {
	s, e := wire.Batch(api.Batch{Base: 5, Records: []api.Record{{Key: "k", Time: 3}}})
	body := "\x0a\x00\x00\x00\x00\x02\x06\x02k\x00"
	if e != api.OK || s != "\x00\x00\x00\x0a"+plainFour(plainSum(body))+body {
		t.Errorf("got %q, %v", s, e)
	}
	wantErr(t, "no records", wire.Right(api.Batch{}), api.ErrArg)
	wantErr(t, "65 records", wire.Right(api.Batch{Records: some(65)}), api.ErrMany)
	wantErr(t, "Pid 0 with Seq 1", wire.Right(api.Batch{Seq: 1, Records: some(1)}), api.ErrArg)
	wantErr(t, "Base 1000000000 and two records", wire.Right(api.Batch{Base: 1000000000, Records: some(2)}), api.ErrOver)
}
