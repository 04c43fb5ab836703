package wire_test

import (
	"encoding/binary"
	"hash/crc32"
	"math"
	"math/rand"
	"slices"
	"strings"
	"testing"

	"logboom/api"
)

// What stands here is the document's wire as plainly as it can be written, with means that the program has not: the tests hold the calls against it.

func plainSum(b string) uint32 {
	return crc32.Checksum([]byte(b), crc32.MakeTable(crc32.Castagnoli))
}

func plainInt(n int) string { return string(binary.AppendVarint(nil, int64(n))) }

func plainInts(list ...int) string {
	var s strings.Builder
	for _, n := range list {
		s.WriteString(plainInt(n))
	}
	return s.String()
}

func plainText(text string) string { return plainInt(len(text)) + text }

func plainFour(n uint32) string { return string(binary.BigEndian.AppendUint32(nil, n)) }

func plainBody(b api.Batch) string {
	s := plainInts(b.Base, b.Epoch, b.Pid, b.PidEpoch, b.Seq, len(b.Records))
	for _, r := range b.Records {
		s += plainInt(r.Time) + plainText(r.Key) + plainText(r.Value)
	}
	return s
}

// framed is a body, of a batch or not, with a right length and a right checksum.
func framed(body string) string {
	return plainFour(uint32(len(body))) + plainFour(plainSum(body)) + body
}

func plainMeta(m api.Meta) string {
	return plainInts(m.Kind, m.A, m.B, m.C, m.D) + plainText(m.Name) + plainText(m.Text) + plainInt(len(m.List)) + plainInts(m.List...)
}

// summed is a body, of a record of metadata or not, with a right checksum.
func summed(body string) string { return plainFour(plainSum(body)) + body }

// plainRight holds each sentence of the promise against the batch, one by one.
func plainRight(b api.Batch) api.Errno {
	n := len(b.Records)
	for _, x := range []int{b.Epoch, b.Pid, b.PidEpoch, b.Seq} {
		if x < 0 || x > 1000000000 {
			return api.ErrArg
		}
	}
	if b.Base < 0 || b.Pid == 0 && b.PidEpoch != 0 || b.Pid == 0 && b.Seq != 0 {
		return api.ErrArg
	}
	if n == 0 || slices.ContainsFunc(b.Records, func(r api.Record) bool { return r.Time < 0 || r.Time > 1000000000 }) {
		return api.ErrArg
	}
	if n > 64 {
		return api.ErrMany
	}
	if slices.ContainsFunc(b.Records, func(r api.Record) bool { return len(r.Key) > 1000 || len(r.Value) > 1000 }) {
		return api.ErrLong
	}
	if float64(b.Base)+float64(n)-1 > 1e9 || float64(b.Seq)+float64(n)-1 > 1e6 {
		return api.ErrOver
	}
	if 8+len(plainBody(b)) > 4096 {
		return api.ErrLong
	}
	return api.OK
}

// cutter reads ints in whatever form they have: that a form is the right one the bytes of what was read tell.
type cutter struct {
	rest string
	ok   bool
}

func (c *cutter) int() int {
	n, k := binary.Varint([]byte(c.rest))
	if k <= 0 {
		c.ok, c.rest = false, ""
		return 0
	}
	c.rest = c.rest[k:]
	return int(n)
}

func (c *cutter) text() string {
	n := c.int()
	if n < 0 || n > len(c.rest) {
		c.ok, c.rest = false, ""
		return ""
	}
	s := c.rest[:n]
	c.rest = c.rest[n:]
	return s
}

func plainReadBody(body string) (api.Batch, bool) {
	c := cutter{body, true}
	b := api.Batch{Base: c.int(), Epoch: c.int(), Pid: c.int(), PidEpoch: c.int(), Seq: c.int()}
	for n := c.int(); n > 0 && c.ok; n-- {
		b.Records = append(b.Records, api.Record{Time: c.int(), Key: c.text(), Value: c.text()})
	}
	if !c.ok || plainRight(b) != api.OK || plainBody(b) != body {
		return api.Batch{}, false
	}
	return b, true
}

func plainReadMetaBody(body string) (api.Meta, bool) {
	c := cutter{body, true}
	m := api.Meta{Kind: c.int(), A: c.int(), B: c.int(), C: c.int(), D: c.int(), Name: c.text(), Text: c.text()}
	for n := c.int(); n > 0 && c.ok; n-- {
		m.List = append(m.List, c.int())
	}
	if !c.ok || len(m.Name) > 32 || len(m.Text) > 1000 || len(m.List) > 64 || plainMeta(m) != body {
		return api.Meta{}, false
	}
	return m, true
}

func sameBatch(a, b api.Batch) bool {
	return a.Base == b.Base && a.Epoch == b.Epoch && a.Pid == b.Pid && a.PidEpoch == b.PidEpoch && a.Seq == b.Seq && slices.Equal(a.Records, b.Records)
}

func sameMeta(a, b api.Meta) bool {
	return a.Kind == b.Kind && a.A == b.A && a.B == b.B && a.C == b.C && a.D == b.D && a.Name == b.Name && a.Text == b.Text && slices.Equal(a.List, b.List)
}

func wantErr(t *testing.T, what string, got, want api.Errno) {
	t.Helper()
	if got != want {
		t.Fatalf("%s: got %d, want %d", what, int(got), int(want))
	}
}

// anyInts are the edges of what may be handed in as an int.
var anyInts = []int{math.MinInt, math.MinInt + 1, -1000000001, -1000000000, -65, -64, -2, -1, 0, 1, 2, 63, 64, 65, 999999, 1000000, 1000001, 999999937, 999999999, 1000000000, 1000000001, math.MaxInt - 63, math.MaxInt - 1, math.MaxInt}

// anyBytes is a text of any bytes.
func anyBytes(r *rand.Rand, n int) string {
	b := make([]byte, n)
	r.Read(b)
	return string(b)
}

// chosenInt is mostly one that may be.
func chosenInt(r *rand.Rand, most int) int {
	switch r.Intn(12) {
	case 0:
		return anyInts[r.Intn(len(anyInts))]
	case 1:
		return most - r.Intn(70)
	case 2, 3:
		return r.Intn(most + 1)
	}
	return r.Intn(100)
}

func chosenLength(r *rand.Rand) int {
	lengths := []int{0, 0, 1, 2, 5, 20, 63, 64, 65, 200, 999, 1000, 1001}
	return lengths[r.Intn(len(lengths))]
}

func chosenBatch(r *rand.Rand) api.Batch {
	b := api.Batch{Base: chosenInt(r, 1000000000), Epoch: chosenInt(r, 1000000000)}
	if r.Intn(2) == 0 {
		b.Pid, b.PidEpoch, b.Seq = chosenInt(r, 1000000000), chosenInt(r, 1000000000), chosenInt(r, 1000000)
	}
	counts := []int{0, 1, 1, 1, 2, 2, 3, 5, 63, 64, 65}
	for range counts[r.Intn(len(counts))] {
		b.Records = append(b.Records, chosenRecord(r))
	}
	return b
}

func chosenRecord(r *rand.Rand) api.Record {
	x := api.Record{Key: anyBytes(r, r.Intn(10)), Value: anyBytes(r, r.Intn(20)), Time: r.Intn(1000)}
	if r.Intn(10) == 0 {
		x = api.Record{Key: anyBytes(r, chosenLength(r)), Value: anyBytes(r, chosenLength(r)), Time: chosenInt(r, 1000000000)}
	}
	return x
}

func chosenMeta(r *rand.Rand) api.Meta {
	number := func() int { return anyInts[r.Intn(len(anyInts))] }
	m := api.Meta{Kind: number(), A: number(), B: number(), C: r.Int() - r.Int(), D: r.Intn(50)}
	m.Name = anyBytes(r, r.Intn(34))
	m.Text = anyBytes(r, chosenLength(r))
	counts := []int{0, 1, 2, 3, 10, 63, 64, 65}
	for range counts[r.Intn(len(counts))] {
		m.List = append(m.List, number())
	}
	return m
}

// twisted is a body with one thing changed: a byte, some that are gone, some that are new.
func twisted(r *rand.Rand, body string) string {
	i := r.Intn(len(body))
	if r.Intn(2) == 0 {
		i = r.Intn(min(len(body), 12))
	}
	edges := []byte{0, 1, 2, 127, 128, 129, 255}
	with := string([]byte{edges[r.Intn(len(edges))]})
	switch r.Intn(5) {
	case 0:
		return body[:i]
	case 1:
		return body[:i] + body[i+1:]
	case 2:
		return body[:i] + with + body[i:]
	case 3:
		return body + with
	}
	return body[:i] + with + body[i+1:]
}
