package rpc_test

import (
	"encoding/binary"
	"hash/crc32"
	"math"
	"math/rand"
	"reflect"
	"strings"
	"testing"

	"logboom/api"
	"logboom/rpc"
	"logboom/wire"
)

// What stands here is the document's messages as plainly as they can be written, with means that the program has not: the tests hold the calls against it.

// partNames are a message's parts: the number of each is its place here.
var partNames = []string{
	"From", "To", "Id", "Part", "Epoch", "Offset", "Last", "Start", "High", "Term", "Index", "Pid", "PidEpoch", "Seq",
	"Err", "Name", "Text", "Batches", "Entries", "Ints",
}

var numberNames = partNames[:14]

func part(m *api.Msg, name string) reflect.Value { return reflect.ValueOf(m).Elem().FieldByName(name) }

func isThere(m api.Msg, name string) bool {
	v := part(&m, name)
	if v.Kind() == reflect.Slice {
		return v.Len() > 0
	}
	return !v.IsZero()
}

func plainSum(b string) uint32 {
	return crc32.Checksum([]byte(b), crc32.MakeTable(crc32.Castagnoli))
}

func plainInt(n int) string { return string(binary.AppendVarint(nil, int64(n))) }

func plainInts(list ...int) string {
	var s strings.Builder
	for _, n := range list {
		s.WriteString(plainInt(n))
	}
	return s.String()
}

func plainText(text string) string { return plainInt(len(text)) + text }

func plainFour(n uint32) string { return string(binary.BigEndian.AppendUint32(nil, n)) }

// framed is a body, of a message or not, with a right length and a right checksum.
func framed(body string) string {
	return plainFour(uint32(len(body))) + plainFour(plainSum(body)) + body
}

// plainPart is a part's bytes, whether it is there or not.
func plainPart(m api.Msg, name string) string {
	v := part(&m, name)
	switch x := v.Interface().(type) {
	case string:
		return plainText(x)
	case []api.Batch:
		s := plainInt(len(x))
		for _, b := range x {
			bytes, _ := wire.Batch(b)
			s += bytes
		}
		return s
	case []api.Entry:
		s := plainInt(len(x))
		for _, e := range x {
			s += plainInts(e.Term, e.Index) + plainText(e.Data)
		}
		return s
	case []int:
		return plainInt(len(x)) + plainInts(x...)
	}
	return plainInt(int(v.Int()))
}

func plainBody(m api.Msg) string {
	sum, s := 0, ""
	for i, name := range partNames {
		if isThere(m, name) {
			sum += 1 << i
			s += plainPart(m, name)
		}
	}
	return plainInts(m.Kind, sum) + s
}

func plainRight(m api.Msg) api.Errno {
	for _, name := range numberNames {
		if n := part(&m, name).Int(); n < -1 || n > 1000000000 {
			return api.ErrArg
		}
	}
	switch {
	case m.Kind < 1 || m.Kind > 28 || m.Err < 0 || m.Err > 23:
		return api.ErrArg
	case len(m.Batches) > 64, len(m.Entries) > 64, len(m.Ints) > 256:
		return api.ErrMany
	case len(m.Name) > 32:
		return api.ErrLong
	}
	for _, b := range m.Batches {
		if e := wire.Right(b); e != api.OK {
			return e
		}
	}
	for _, e := range m.Entries {
		if e.Term < 0 || e.Term > 1000000000 || e.Index < 0 || e.Index > 1000000000 {
			return api.ErrArg
		}
		if len(e.Data) > 2048 {
			return api.ErrLong
		}
	}
	if len(framed(plainBody(m))) > 65536 {
		return api.ErrLong
	}
	return api.OK
}

// cutter takes a body apart, and leaves it by a panic where that can't be done.
type cutter struct{ rest string }

type notSo struct{}

func (c *cutter) int() int {
	n, k := binary.Varint([]byte(c.rest))
	if k <= 0 || plainInt(int(n)) != c.rest[:k] {
		panic(notSo{})
	}
	c.rest = c.rest[k:]
	return int(n)
}

// count is at least 1: of nothing there is no part.
func (c *cutter) count() int {
	n := c.int()
	if n < 1 {
		panic(notSo{})
	}
	return n
}

func (c *cutter) bytes(n int) string {
	if n < 0 || n > len(c.rest) {
		panic(notSo{})
	}
	s := c.rest[:n]
	c.rest = c.rest[n:]
	return s
}

func (c *cutter) batch() api.Batch {
	b, n, e := wire.ReadBatch(c.rest)
	if e != api.OK {
		panic(notSo{})
	}
	c.rest = c.rest[n:]
	return b
}

func (c *cutter) part(m *api.Msg, name string) {
	switch name {
	case "Name", "Text":
		part(m, name).SetString(c.bytes(c.count()))
	case "Batches":
		for n := c.count(); n > 0; n-- {
			m.Batches = append(m.Batches, c.batch())
		}
	case "Entries":
		for n := c.count(); n > 0; n-- {
			term, index := c.int(), c.int()
			m.Entries = append(m.Entries, api.Entry{Term: term, Index: index, Data: c.bytes(c.int())})
		}
	case "Ints":
		for n := c.count(); n > 0; n-- {
			m.Ints = append(m.Ints, c.int())
		}
	default:
		n := c.int()
		if n == 0 {
			panic(notSo{})
		}
		part(m, name).SetInt(int64(n))
	}
}

func plainRead(body string) (m api.Msg, ok bool) {
	defer func() {
		if x := recover(); x != nil {
			if _, meant := x.(notSo); !meant {
				panic(x)
			}
			m, ok = api.Msg{}, false
		}
	}()
	c := cutter{body}
	m.Kind = c.int()
	sum := c.int()
	if sum < 0 || sum >= 1<<len(partNames) {
		return api.Msg{}, false
	}
	for i, name := range partNames {
		if sum&(1<<i) != 0 {
			c.part(&m, name)
		}
	}
	if c.rest != "" || plainRight(m) != api.OK {
		return api.Msg{}, false
	}
	return m, true
}

// same holds messages against each other part by part: a list of nothing may be nil or empty.
func same(a, b api.Msg) bool {
	if a.Kind != b.Kind {
		return false
	}
	for _, name := range partNames {
		there := isThere(a, name)
		if there != isThere(b, name) || there && !reflect.DeepEqual(part(&a, name).Interface(), part(&b, name).Interface()) {
			return false
		}
	}
	return true
}

func wantErr(t *testing.T, what string, got, want api.Errno) {
	t.Helper()
	if got != want {
		t.Fatalf("%s: got %d, want %d", what, int(got), int(want))
	}
}

// wantRight holds Right and Encode against an error, or, if there is none, against the document's bytes.
func wantRight(t *testing.T, what string, m api.Msg, want api.Errno) {
	t.Helper()
	wantErr(t, what+": Right", rpc.Right(m), want)
	s, e := rpc.Encode(m)
	wantErr(t, what+": Encode", e, want)
	if want != api.OK && s != "" {
		t.Fatalf("%s: Encode told bytes with its error", what)
	}
	if want == api.OK && s != framed(plainBody(m)) {
		t.Fatalf("%s: got %.300q, want %.300q", what, s, framed(plainBody(m)))
	}
}

func wantDecode(t *testing.T, s string, want api.Msg) {
	t.Helper()
	m, e := rpc.Decode(s)
	if e != api.OK || !same(m, want) {
		t.Fatalf("Decode(%.300q): got %.300v, %d, want %.300v", s, m, int(e), want)
	}
}

func wantNoMsg(t *testing.T, what, s string, want api.Errno) {
	t.Helper()
	m, e := rpc.Decode(s)
	wantErr(t, what, e, want)
	if !same(m, api.Msg{}) {
		t.Fatalf("%s: %.300v told with an error", what, m)
	}
}

func xs(n int) string { return strings.Repeat("x", n) }

// batches are right, each of the Base of its place.
func batches(n int) []api.Batch {
	list := make([]api.Batch, n)
	for i := range list {
		list[i] = api.Batch{Base: i, Records: []api.Record{{Key: "k", Value: "v", Time: i}}}
	}
	return list
}

// filled has every part, and each number is another one.
func filled() api.Msg {
	return api.Msg{
		Kind: 7, From: 1, To: 2, Id: 3, Part: 4, Epoch: 5, Offset: -1, Last: 7, Start: 8, High: 1000000000, Term: 10, Index: 11, Pid: 12, PidEpoch: 13, Seq: 14,
		Err: 23, Name: "name", Text: "te\x00xt\xff", Batches: batches(2), Entries: []api.Entry{{Term: 1, Index: 2, Data: "data"}, {}}, Ints: []int{0, -1, math.MaxInt, math.MinInt},
	}
}

// only is a message with those parts of filled alone whose bits the sum has.
func only(sum int) api.Msg {
	full, m := filled(), api.Msg{Kind: 1}
	for i, name := range partNames {
		if sum&(1<<i) != 0 {
			part(&m, name).Set(part(&full, name))
		}
	}
	return m
}

func anyBytes(r *rand.Rand, n int) string {
	b := make([]byte, n)
	r.Read(b)
	return string(b)
}

// anyInts are the edges of what may be handed in as an int.
var anyInts = []int{math.MinInt, -1000000001, -65, -64, -2, -1, 0, 1, 63, 64, 999999999, 1000000000, 1000000001, math.MaxInt}

// chosenNumber is mostly one that may be.
func chosenNumber(r *rand.Rand) int {
	switch r.Intn(40) {
	case 0:
		return anyInts[r.Intn(len(anyInts))]
	case 1, 2:
		return -1
	case 3, 4:
		return 1000000000 - r.Intn(2)
	}
	return max(0, r.Intn(200)-100)
}

func chosenOf(r *rand.Rand, list ...int) int { return list[r.Intn(len(list))] }

func chosenBatch(r *rand.Rand) api.Batch {
	b := api.Batch{Base: r.Intn(100), Epoch: r.Intn(10)}
	if r.Intn(2) == 0 {
		b.Pid, b.PidEpoch, b.Seq = 1+r.Intn(9), r.Intn(3), r.Intn(100)
	}
	if r.Intn(60) == 0 {
		b.Base, b.Seq = chosenOf(r, -1, 1000000000, 1000000001), chosenNumber(r)
	}
	for range chosenOf(r, 1, 1, 1, 2, 5, 5*r.Intn(2)) {
		b.Records = append(b.Records, api.Record{Key: anyBytes(r, r.Intn(8)), Value: anyBytes(r, chosenOf(r, 0, 3, 70, 600)), Time: r.Intn(100)})
	}
	return b
}

func chosenEntry(r *rand.Rand) api.Entry {
	e := api.Entry{Term: r.Intn(9), Index: r.Intn(99), Data: anyBytes(r, chosenOf(r, 0, 1, 20, 2000))}
	if r.Intn(60) == 0 {
		e = api.Entry{Term: chosenNumber(r), Index: chosenNumber(r), Data: anyBytes(r, chosenOf(r, 0, 2047, 2048, 2049))}
	}
	return e
}

// chosenMsg has mostly some of the parts, and is mostly right.
func chosenMsg(r *rand.Rand) api.Msg {
	m := api.Msg{Kind: 1 + r.Intn(28)}
	if r.Intn(60) == 0 {
		m.Kind = chosenOf(r, anyInts...)
	}
	for _, name := range numberNames {
		if r.Intn(3) == 0 {
			part(&m, name).SetInt(int64(chosenNumber(r)))
		}
	}
	for _, name := range partNames[14:] {
		if r.Intn(3) == 0 {
			choosePart(r, &m, name)
		}
	}
	return m
}

func choosePart(r *rand.Rand, m *api.Msg, name string) {
	switch name {
	case "Err":
		m.Err = api.Errno(chosenOf(r, 0, 1, 5, 22, 23, 23+r.Intn(2), -r.Intn(2)))
	case "Name":
		m.Name = anyBytes(r, chosenOf(r, 0, 1, 5, 31, 32, 32+r.Intn(2)))
	case "Text":
		m.Text = anyBytes(r, chosenOf(r, 0, 1, 5, 63, 64, 200, 9000, 60000+r.Intn(6000)))
	case "Batches":
		for range chosenOf(r, 0, 1, 2, 3, 64, 64+r.Intn(2)) {
			m.Batches = append(m.Batches, chosenBatch(r))
		}
	case "Entries":
		for range chosenOf(r, 0, 1, 2, 3, 64, 64+r.Intn(2)) {
			m.Entries = append(m.Entries, chosenEntry(r))
		}
	case "Ints":
		for range chosenOf(r, 0, 1, 2, 63, 64, 256, 256+r.Intn(2)) {
			m.Ints = append(m.Ints, chosenOf(r, anyInts...))
		}
	}
}

// twisted is a body with one thing changed: a byte, some that are gone, some that are new.
func twisted(r *rand.Rand, body string) string {
	i := r.Intn(len(body))
	if r.Intn(2) == 0 {
		i = r.Intn(min(len(body), 8))
	}
	with := string([]byte{byte(chosenOf(r, 0, 1, 2, 4, 8, 127, 128, 129, 255, r.Intn(256)))})
	switch r.Intn(6) {
	case 0:
		return body[:i]
	case 1:
		return body[:i] + body[i+1:]
	case 2:
		return body[:i] + with + body[i:]
	case 3:
		return body + with
	}
	return body[:i] + with + body[i+1:]
}
