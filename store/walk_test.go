package store_test

import (
	"math"
	"math/rand"
	"strconv"
	"testing"

	"logboom/api"
	"logboom/dedup"
	"logboom/disk"
	"logboom/epochs"
	"logboom/plog"
	"logboom/store"
)

// paper is the document's store as plainly as it can be written, on a disk of its own: the walks hold the store, and its disk, against it.
type paper struct {
	d     *disk.Disk
	most  int
	log   *plog.Log
	cache *epochs.Cache
	table *dedup.Table
}

func (p *paper) open() api.Errno {
	var e api.Errno
	if p.log, e = plog.Open(p.d, "p", p.most); e != api.OK {
		return e
	}
	if p.cache, e = epochs.Open(p.d, cacheFile); e != api.OK {
		return e
	}
	p.table = dedup.New()
	if text, none := p.d.Read(tableFile); none == api.OK {
		if p.table, e = dedup.Load(text); e != api.OK {
			return e
		}
	}
	p.cache.Cut(p.log.Next())
	p.table.Cut(p.log.Start())
	for _, b := range p.log.All() {
		if b.Epoch > p.cache.Last() {
			p.cache.Begin(b.Epoch, b.Base)
		}
		p.table.Note(b)
	}
	return api.OK
}

func (p *paper) take(b api.Batch) api.Errno {
	begun := false
	if b.Epoch < p.cache.Last() {
		return api.ErrFenced
	} else if b.Epoch > p.cache.Last() {
		if e := p.cache.Begin(b.Epoch, p.log.Next()); e != api.OK {
			return e
		}
		begun = true
	}
	if e := p.log.Take(b); e != api.OK {
		if begun {
			p.cache.Cut(p.log.Next())
		}
		return e
	}
	p.table.Note(b)
	return api.OK
}

func (p *paper) cut(offset int) api.Errno {
	if e := p.log.Cut(offset); e != api.OK {
		return e
	}
	p.cache.Cut(p.log.Next())
	p.table.Cut(p.log.Next())
	return api.OK
}

func (p *paper) delete(offset int) api.Errno {
	if e := p.d.Replace(tableFile, p.table.Keep()); e != api.OK {
		return e
	}
	if e := p.log.Delete(offset); e != api.OK {
		return e
	}
	p.table.Delete(offset)
	p.cache.Delete(offset)
	return api.OK
}

func (p *paper) begin(offset int, pids string) api.Errno {
	if offset < 0 || offset > 1000000000 {
		return api.ErrArg
	}
	x, e := dedup.Load(pids)
	if e != api.OK {
		return e
	}
	x.Cut(offset)
	if e := p.d.Replace(tableFile, x.Keep()); e != api.OK {
		return e
	}
	if e := p.log.Begin(offset); e != api.OK {
		return e
	}
	p.table = x
	p.cache.Cut(0)
	return api.OK
}

// wantAs asks that the store and its disk tell what the paper and its own tell.
func (p *paper) wantAs(t *testing.T, d *disk.Disk, s *store.Store, what string) {
	t.Helper()
	if picture(d) != picture(p.d) {
		t.Fatalf("%s: the disk is\n%.2000s\nwant\n%.2000s", what, picture(d), picture(p.d))
	}
	l := s.Log()
	if l.Start() != p.log.Start() || l.Next() != p.log.Next() || l.Safe() != p.log.Safe() || l.Saved() != p.log.Saved() {
		t.Fatalf("%s: Start %d, Next %d, Safe %d, Saved %d, want %d, %d, %d, %d", what, l.Start(), l.Next(), l.Safe(), l.Saved(), p.log.Start(), p.log.Next(), p.log.Safe(), p.log.Saved())
	}
	if got, want := bytesOf(t, l.All()...), bytesOf(t, p.log.All()...); got != want {
		t.Fatalf("%s: the log: got %.300q, want %.300q", what, got, want)
	}
	var list []int
	for _, x := range p.cache.All() {
		list = append(list, x.Term, x.Index)
	}
	wantCache(t, s, list...)
	if got, want := s.Table().Keep(), p.table.Keep(); got != want {
		t.Fatalf("%s: the table: got %q, want %q", what, got, want)
	}
}

// chance makes batches and choices, always the same ones for one seed.
type chance struct{ *rand.Rand }

// batch is mostly the next one of a producer, mostly of the last epoch.
func (c chance) batch(p *paper) api.Batch {
	b := of(max(0, p.cache.Last()), 0, 0, 1+c.Intn(3))
	if c.Intn(5) > 0 {
		b.Pid = 7 + c.Intn(3)
		for e := 0; e < 4 && b.Seq < 60; b.Seq++ {
			// The first sequence that the table calls new, of the epoch that it does not fence.
			at, err := p.table.Ask(b.Pid, e, b.Seq, len(b.Records))
			if at == -1 && err == api.OK {
				break
			}
			if err == api.ErrFenced {
				e++
				b.Seq--
			}
			b.PidEpoch = e
		}
	}
	switch c.Intn(14) {
	case 0:
		b.Epoch += 1 + c.Intn(100)
	case 1:
		b.Epoch--
	case 2:
		b.Epoch += 1 + c.Intn(3)
	case 3:
		b.Seq = max(0, b.Seq-1+c.Intn(3))
	case 4:
		b.PidEpoch++
	}
	switch c.Intn(60) {
	case 0:
		b.Records = nil
	case 1:
		b.Epoch = []int{-1, -2, api.MaxOffset, api.MaxOffset + 1}[c.Intn(4)]
	case 2:
		b.Records = make([]api.Record, 65)
	}
	return b
}

// near is an offset from one below the start to a few behind the end; sometimes it is any.
func (c chance) near(l *plog.Log) int {
	if c.Intn(40) == 0 {
		return []int{-1, 0, api.MaxOffset, api.MaxOffset + 1, math.MinInt, math.MaxInt}[c.Intn(6)]
	}
	return l.Start() - 1 + c.Intn(l.Next()-l.Start()+4)
}

// place is mostly one, not far from the start.
func (c chance) place(l *plog.Log) int {
	if list := l.All(); len(list) > 0 && c.Intn(4) > 0 {
		return list[c.Intn(1+len(list)/2)%len(list)].Base
	}
	return c.near(l)
}

// pids is a table as a leader could tell it, or what is none.
func (c chance) pids(p *paper) string {
	switch c.Intn(6) {
	case 0:
		return tableOf(leaders()[:c.Intn(7)]...).Keep()
	case 1:
		return "junk"
	case 2:
		return sealed("\x02")
	}
	return p.table.Keep()
}

// spoil does to both disks what no store does.
func (c chance) spoil(list ...*disk.Disk) {
	how, n := c.Intn(7), c.Intn(40)
	for _, d := range list {
		switch how {
		case 0, 1:
			d.Remove(cacheFile)
		case 2:
			d.Remove(tableFile)
		case 3:
			d.Replace(tableFile, tableOf(leaders()[:n%7]...).Keep())
		case 4:
			d.Replace(metaFile, strconv.Itoa(n)+" "+strconv.Itoa(n+5)+"\n")
		case 5:
			d.Cut([]string{cacheFile, tableFile}[n%2], n/2)
		case 6:
			d.Remove("p-0000000000.log")
		}
	}
}

// B1 to B3: any calls, one behind the other.
func TestWalks(t *testing.T) {
	told := map[api.Errno]int{}
	for seed := range 150 {
		walk(t, chance{rand.New(rand.NewSource(int64(seed)))}, told)
	}
	for _, e := range []api.Errno{api.OK, api.ErrArg, api.ErrMany, api.ErrForm, api.ErrSum, api.ErrFull, api.ErrRange, api.ErrOrder, api.ErrFenced} {
		if told[e] < 30 {
			t.Errorf("%d was told %d times", int(e), told[e])
		}
	}
}

func walk(t *testing.T, c chance, told map[api.Errno]int) {
	t.Helper()
	d := made(t, []int{300, 700, 1500, 4000, 100000}[c.Intn(5)])
	if c.Intn(4) == 0 {
		crowd(t, d, api.MaxFiles-1-c.Intn(6))
	}
	p := &paper{d: d.Clone(), most: []int{256, 400, 3000}[c.Intn(3)]}
	must(t, p.open())
	s := opened(t, d, p.most)
	for i := range 150 {
		what := "step " + strconv.Itoa(i)
		var got, want api.Errno
		switch c.Intn(20) {
		case 0, 1:
			got, want = s.Sync(), p.log.Sync()
		case 2:
			offset := c.near(p.log)
			got, want = s.Cut(offset), p.cut(offset)
		case 3, 4:
			offset := c.place(p.log)
			got, want = s.Delete(offset), p.delete(offset)
		case 5:
			if c.Intn(3) == 0 {
				offset, pids := c.near(p.log), c.pids(p)
				got, want = s.Begin(offset, pids), p.begin(offset, pids)
			}
		case 6:
			keep := []int{c.Intn(1000), c.Intn(1000)}
			d.Crash(keep)
			p.d.Crash(keep)
			if c.Intn(3) == 0 {
				c.spoil(d, p.d)
			}
			want = p.open()
			again, e := store.Open(d, "p", p.most)
			if got = e; e != api.OK && again != nil {
				t.Fatalf("%s: a refused Open told a store", what)
			}
			if e != api.OK && e == want {
				told[e]++
				return
			}
			s = again
		case 7, 8:
			b := c.batch(p)
			b.Base = c.near(p.log)
			got, want = s.Take(b), p.take(b)
		default:
			b := c.batch(p)
			next := p.log.Next()
			n, e := s.Append(b)
			b.Base = next
			if got, want = e, p.take(b); e != api.OK {
				next = 0
			}
			if n != next {
				t.Fatalf("%s: Append told %d, want %d", what, n, next)
			}
		}
		wantErr(t, what, got, want)
		p.wantAs(t, d, s, what)
		told[got]++
	}
}
