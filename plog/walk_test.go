package plog_test

import (
	"math/rand"
	"strconv"
	"strings"
	"testing"

	"logboom/api"
	"logboom/disk"
	"logboom/plog"
	"logboom/wire"
)

// paper is the document's log as plainly as it can be written: the walks hold the log against it.
type paper struct {
	t           *testing.T
	most        int
	start, high int
	meta        string // empty: there is none
	parts       []paperPart
}

// paperPart is a segment.
type paperPart struct {
	base    int
	batches []api.Batch
	safe    int // bytes
}

func (s *paperPart) next() int {
	n := s.base
	for _, b := range s.batches {
		n += len(b.Records)
	}
	return n
}

func (p *paper) size(s *paperPart) int { return len(bytesOf(p.t, s.batches...)) }

func (p *paper) last() *paperPart { return &p.parts[len(p.parts)-1] }

func (p *paper) next() int { return p.last().next() }

// safe is the end of the last part's batches whose bytes are all safe.
func (p *paper) safe() int {
	end, at := p.last().base, 0
	for _, b := range p.last().batches {
		if at += len(bytesOf(p.t, b)); at > p.last().safe {
			break
		}
		end += len(b.Records)
	}
	return end
}

// open reads what is on the disk, ahead of the log's own Open. False: that is refused.
func (p *paper) open(d *disk.Disk) bool {
	p.start, p.high, p.meta, p.parts = 0, 0, "", nil
	if text, e := d.Read("p.meta"); e == api.OK {
		ok := false
		if p.start, p.high, ok = plainMeta(text); !ok {
			return false
		}
		p.meta = text
	}
	ended := false
	for base := range 2000 {
		bytes, e := d.Read(file("p", base))
		if e != api.OK || ended {
			continue
		}
		if len(p.parts) == 0 && base > p.start || len(p.parts) > 0 && base != p.next() {
			ended = true
			continue
		}
		p.parts = append(p.parts, p.part(base, bytes))
	}
	if len(p.parts) == 0 || p.next() < p.start {
		p.parts = []paperPart{{base: p.start}}
	}
	p.high = min(p.high, p.next())
	return true
}

// part is the batches that a file's bytes begin with.
func (p *paper) part(base int, bytes string) paperPart {
	s := paperPart{base: base}
	for {
		b, n, e := wire.ReadBatch(bytes)
		if e != api.OK || b.Base != s.next() {
			s.safe = p.size(&s)
			return s
		}
		s.batches = append(s.batches, b)
		bytes = bytes[n:]
	}
}

// plainMeta reads a meta byte by byte.
func plainMeta(text string) (start, high int, ok bool) {
	numbers := [2]int{}
	for i, ending := range []byte{' ', '\n'} {
		n := strings.IndexByte(text, ending)
		if n < 1 || n > 10 || n > 1 && text[0] == '0' {
			return 0, 0, false
		}
		for _, c := range []byte(text[:n]) {
			if c < '0' || c > '9' {
				return 0, 0, false
			}
			numbers[i] = 10*numbers[i] + int(c-'0')
		}
		text = text[n+1:]
	}
	if text != "" || numbers[0] > numbers[1] || numbers[1] > 1000000000 {
		return 0, 0, false
	}
	return numbers[0], numbers[1], true
}

// room is what the disk has: bytes, files.
type room struct{ bytes, files int }

func roomOf(d *disk.Disk) room { return room{d.Free(), api.MaxFiles - len(d.Names())} }

func (p *paper) take(b api.Batch, r room) api.Errno {
	switch {
	case b.Base != p.next():
		return api.ErrOrder
	case len(b.Records) == 0:
		return api.ErrArg
	}
	if s := p.last(); len(s.batches) > 0 && p.size(s) >= p.most {
		s.safe = p.size(s)
		if r.files == 0 {
			return api.ErrMany
		}
		p.parts = append(p.parts, paperPart{base: p.next()})
	}
	if len(bytesOf(p.t, b)) > r.bytes {
		return api.ErrFull
	}
	p.last().batches = append(p.last().batches, b)
	return api.OK
}

func (p *paper) cut(offset int) api.Errno {
	if offset < p.start || offset > p.next() {
		return api.ErrRange
	}
	for len(p.parts) > 1 && p.last().base >= offset {
		p.parts = p.parts[:len(p.parts)-1]
	}
	s := p.last()
	for s.next() > offset && len(s.batches) > 0 {
		s.batches = s.batches[:len(s.batches)-1]
	}
	s.safe = min(s.safe, p.size(s))
	if p.next() < p.start {
		return p.begin(p.start, room{api.MaxDisk, 1})
	}
	p.high = min(p.high, p.next())
	return api.OK
}

func (p *paper) keep(start, high int, r room) api.Errno {
	text := strconv.Itoa(start) + " " + strconv.Itoa(high) + "\n"
	if p.meta == "" && r.files == 0 {
		return api.ErrMany
	}
	if len(text) > r.bytes+len(p.meta) {
		return api.ErrFull
	}
	p.start, p.high, p.meta = start, high, text
	return api.OK
}

func (p *paper) delete(offset int, r room) api.Errno {
	place := offset == p.next()
	for _, s := range p.parts {
		for _, b := range s.batches {
			place = place || b.Base == offset
		}
	}
	if offset < p.start || !place {
		return api.ErrRange
	}
	if e := p.keep(offset, max(p.high, offset), r); e != api.OK {
		return e
	}
	for len(p.parts) > 1 && p.parts[0].next() <= p.start {
		p.parts = p.parts[1:]
	}
	return api.OK
}

func (p *paper) begin(offset int, r room) api.Errno {
	if offset < 0 || offset > api.MaxOffset {
		return api.ErrArg
	}
	if e := p.keep(offset, offset, r); e != api.OK {
		return e
	}
	p.parts = []paperPart{{base: offset}}
	return api.OK
}

func (p *paper) save(high int, r room) api.Errno {
	if high < p.start || high > p.next() {
		return api.ErrRange
	}
	return p.keep(p.start, high, r)
}

// all is the batches whose end is above an offset.
func (p *paper) all(offset int) []api.Batch {
	var list []api.Batch
	for _, s := range p.parts {
		for _, b := range s.batches {
			if b.Base+len(b.Records) > offset {
				list = append(list, b)
			}
		}
	}
	return list
}

func (p *paper) read(offset, most int) ([]api.Batch, api.Errno) {
	if offset < p.start || offset > p.next() {
		return nil, api.ErrRange
	}
	list := p.all(offset)
	n := min(1, len(list))
	for n > 0 && n < len(list) && len(bytesOf(p.t, list[:n+1]...)) <= most {
		n++
	}
	return list[:n], api.OK
}

// wantAs asks for all that the log tells, and for its files.
func (p *paper) wantAs(d *disk.Disk, l *plog.Log, what string) {
	p.t.Helper()
	if l.Start() != p.start || l.Next() != p.next() || l.Safe() != p.safe() || l.Saved() != p.high {
		p.t.Fatalf("%s: Start %d, Next %d, Safe %d, Saved %d, want %d, %d, %d, %d", what, l.Start(), l.Next(), l.Safe(), l.Saved(), p.start, p.next(), p.safe(), p.high)
	}
	wantAll(p.t, l, p.all(p.start)...)
	var bases []int
	for _, s := range p.parts {
		bases = append(bases, s.base)
		name := file("p", s.base)
		if b, _ := d.Read(name); b != bytesOf(p.t, s.batches...) || d.Synced(name) != s.safe {
			p.t.Fatalf("%s: %s has %d bytes, %d are safe, want %d, %d", what, name, len(b), d.Synced(name), p.size(&s), s.safe)
		}
	}
	wantFiles(p.t, d, "p", bases...)
	if p.meta != "" {
		wantMeta(p.t, d, "p", p.meta)
	} else if _, e := d.Read("p.meta"); e != api.ErrNone {
		p.t.Fatalf("%s: there is a meta", what)
	}
}

// chance makes batches and choices, always the same ones for one seed.
type chance struct{ *rand.Rand }

func (c chance) batch(base int) api.Batch {
	b := api.Batch{Base: base, Epoch: c.Intn(1000)}
	if c.Intn(2) == 0 {
		b.Pid, b.PidEpoch, b.Seq = 1+c.Intn(100), c.Intn(100), c.Intn(900000)
	}
	longest := []int{0, 3, 40, 240}[c.Intn(4)]
	for range 1 + c.Intn(4) {
		b.Records = append(b.Records, api.Record{Key: c.text(longest), Value: c.text(longest), Time: c.Intn(1000)})
	}
	return b
}

func (c chance) text(longest int) string {
	b := make([]byte, c.Intn(longest+1))
	c.Read(b)
	return string(b)
}

// near is an offset from one below START to a few behind NEXT.
func (c chance) near(p *paper) int { return p.start - 1 + c.Intn(p.next()-p.start+4) }

// place is mostly one.
func (c chance) place(p *paper) int {
	if list := p.all(p.start); len(list) > 0 && c.Intn(4) > 0 {
		return list[c.Intn(1+len(list)/2)%len(list)].Base
	}
	return c.near(p)
}

// spoil does to the disk what no log does.
func (c chance) spoil(t *testing.T, d *disk.Disk, p *paper) {
	s := p.parts[c.Intn(len(p.parts))]
	name := file("p", s.base)
	switch c.Intn(5) {
	case 0:
		must(t, d.Remove(name))
	case 1:
		must(t, d.Cut(name, c.Intn(d.Size(name)+1)))
	case 2:
		d.Append(name, c.text(20))
	case 3:
		start := max(0, c.near(p))
		d.Replace("p.meta", strconv.Itoa(start)+" "+strconv.Itoa(start+c.Intn(9))+"\n")
	case 4:
		d.Append(file("p", max(0, c.near(p))), c.text(20))
	}
}

func TestWalks(t *testing.T) {
	for seed := range 80 {
		walk(t, chance{rand.New(rand.NewSource(int64(seed)))})
	}
}

func walk(t *testing.T, c chance) {
	t.Helper()
	d := made(t, []int{1200, 3000, 9000}[c.Intn(3)])
	if c.Intn(3) == 0 {
		crowd(t, d, api.MaxFiles-1-c.Intn(6))
	}
	p := &paper{t: t, most: []int{256, 300, 700, 5000}[c.Intn(4)], parts: []paperPart{{}}}
	l := opened(t, d, "p", p.most)
	for i := range 250 {
		what := "step " + strconv.Itoa(i)
		r := roomOf(d)
		switch c.Intn(20) {
		case 0, 1:
			wantErr(t, what, l.Sync(), api.OK)
			p.last().safe = p.size(p.last())
		case 2:
			offset := c.near(p)
			wantErr(t, what+": Cut", l.Cut(offset), p.cut(offset))
		case 3, 4:
			offset := c.place(p)
			wantErr(t, what+": Delete", l.Delete(offset), p.delete(offset, r))
		case 5:
			if offset := c.Intn(1500) - 1; c.Intn(8) == 0 {
				wantErr(t, what+": Begin", l.Begin(offset), p.begin(offset, r))
			}
		case 6:
			high := c.near(p)
			wantErr(t, what+": Save", l.Save(high), p.save(high, r))
		case 7:
			d.Crash([]int{c.Intn(10000)})
			if c.Intn(3) == 0 {
				c.spoil(t, d, p)
			}
			p.open(d)
			l = opened(t, d, "p", p.most)
		case 8:
			b := c.batch(c.near(p))
			wantErr(t, what+": Take", l.Take(b), p.take(b, r))
		case 9:
			b := batch(p.next(), 0)
			wantErr(t, what+": Take of none", l.Take(b), p.take(b, r))
		case 10, 11:
			offset, most := c.near(p), c.Intn(3000)-2
			got, e := l.Read(offset, most)
			want, e2 := p.read(offset, most)
			if e != e2 || !same(got, want) {
				t.Fatalf("%s: Read(%d, %d): got %d batches, %d, want %d, %d", what, offset, most, len(got), int(e), len(want), int(e2))
			}
		default:
			b := c.batch(p.next())
			want := p.take(b, r)
			b.Base = c.Intn(9) - 4
			got, e := l.Append(b)
			wantErr(t, what+": Append", e, want)
			if e == api.OK && got != p.next()-len(b.Records) || e != api.OK && got != 0 {
				t.Fatalf("%s: Append told %d", what, got)
			}
		}
		p.wantAs(d, l, what)
	}
}

// L7: behind any crash there is a beginning with all that was safe, and the same START; offsets go on there.
func TestACrashLeavesABeginningWithAllThatWasSafe(t *testing.T) {
	for seed := range 200 {
		c := chance{rand.New(rand.NewSource(int64(seed)))}
		d := made(t, 100000)
		l := opened(t, d, "p", 256+c.Intn(600))
		for range 1 + c.Intn(25) {
			_, e := l.Append(c.batch(0))
			must(t, e)
			if c.Intn(6) == 0 {
				must(t, l.Sync())
			}
		}
		all := l.All()
		start := all[c.Intn(len(all))].Base
		must(t, l.Delete(start))
		all = l.All()
		safe := l.Safe()
		d.Crash([]int{c.Intn(5000)})
		l = opened(t, d, "p", 256)
		left := l.All()
		if l.Start() != start || len(left) > len(all) || !same(left, all[:len(left)]) {
			t.Fatalf("Start %d, %d batches, want %d, a beginning of %d", l.Start(), len(left), start, len(all))
		}
		if l.Next() < safe || len(left) > 0 && l.Next() != left[len(left)-1].Base+len(left[len(left)-1].Records) {
			t.Fatalf("Next %d, with %d batches; safe were those to %d", l.Next(), len(left), safe)
		}
		next := l.Next()
		if n, e := l.Append(c.batch(0)); n != next || e != api.OK {
			t.Fatalf("Append: got %d, %d, want %d", n, int(e), next)
		}
	}
}

// L7: what Read tells is what was taken, whatever the segments' size.
func TestTheSegmentsSizeIsNotToBeSeen(t *testing.T) {
	for seed := range 20 {
		c := chance{rand.New(rand.NewSource(int64(seed)))}
		var logs []*plog.Log
		for _, most := range []int{256, 257, 500, 4096, 1000000} {
			logs = append(logs, opened(t, made(t, 1000000), "p", most))
		}
		var list []api.Batch
		for range 60 {
			b := c.batch(logs[0].Next())
			list = append(list, b)
			for _, l := range logs {
				must(t, l.Take(b))
			}
		}
		start := list[c.Intn(20)].Base
		for _, l := range logs {
			wantAll(t, l, list...)
			must(t, l.Delete(start))
		}
		for range 200 {
			offset, most := start+c.Intn(logs[0].Next()-start+1), c.Intn(5000)
			want, e := logs[0].Read(offset, most)
			must(t, e)
			for _, l := range logs[1:] {
				wantRead(t, l, offset, most, want...)
			}
		}
	}
}

// L6: a crash behind each call, and Open anew: what was kept or cut stays so, and what was safe.
func TestCrashesUndoNeitherCutsNorKeeps(t *testing.T) {
	for _, c := range []struct {
		what              string
		call              func(l *plog.Log) api.Errno
		start, next, high int
		first             int // of the batches that are left
	}{
		{"Sync", func(l *plog.Log) api.Errno { return l.Sync() }, 0, 9, 0, 0},
		{"Take", func(l *plog.Log) api.Errno { return l.Take(batch(9, 1)) }, 0, 8, 0, 0},
		{"Cut(8)", func(l *plog.Log) api.Errno { return l.Cut(8) }, 0, 8, 0, 0},
		{"Cut(7)", func(l *plog.Log) api.Errno { return l.Cut(7) }, 0, 7, 0, 0},
		{"Cut(6)", func(l *plog.Log) api.Errno { return l.Cut(6) }, 0, 6, 0, 0},
		{"Cut(4)", func(l *plog.Log) api.Errno { return l.Cut(4) }, 0, 4, 0, 0},
		{"Cut(0)", func(l *plog.Log) api.Errno { return l.Cut(0) }, 0, 0, 0, 0},
		{"Delete(2)", func(l *plog.Log) api.Errno { return l.Delete(2) }, 2, 8, 2, 2},
		{"Delete(7)", func(l *plog.Log) api.Errno { return l.Delete(7) }, 7, 8, 7, 7},
		{"Delete(9), of what was not safe", func(l *plog.Log) api.Errno { return l.Delete(9) }, 9, 9, 9, 9},
		{"Save(5)", func(l *plog.Log) api.Errno { return l.Save(5) }, 0, 8, 5, 0},
		{"Save(9), of what was not safe", func(l *plog.Log) api.Errno { return l.Save(9) }, 0, 8, 8, 0},
		{"Begin(4)", func(l *plog.Log) api.Errno { return l.Begin(4) }, 4, 4, 4, 4},
		{"Begin(100)", func(l *plog.Log) api.Errno { return l.Begin(100) }, 100, 100, 100, 9},
	} {
		for _, keep := range []int{0, 50, 98} {
			d := made(t, 10000)
			l, list := three(t, d)
			list = append(list, taken(t, l, 99)...)
			wantErr(t, c.what, c.call(l), api.OK)
			d.Crash([]int{keep})
			l = opened(t, d, "p", 300)
			wantNumbers(t, l, c.start, c.next, c.next, c.high)
			wantAll(t, l, list[c.first:min(c.next, 9)]...)
		}
	}
}
