package segment_test

import (
	"math/rand"
	"reflect"
	"strconv"
	"strings"
	"testing"

	"logboom/api"
	"logboom/disk"
	"logboom/segment"
)

// paper is the document's segment as plainly as it can be written: the walks hold the segment against it.
type paper struct {
	t       *testing.T
	base    int
	batches []api.Batch
	safe    int // bytes of the file that are
}

func (p *paper) size() int { return len(written(p.t, p.batches...)) }

func (p *paper) next() int { return p.endOf(len(p.batches)) }

// endOf is the end of the first n batches.
func (p *paper) endOf(n int) int {
	end := p.base
	for _, b := range p.batches[:n] {
		end += len(b.Records)
	}
	return end
}

func (p *paper) safeEnd() int {
	return p.endOf(len(whole(p.t, p.safe, p.batches)))
}

func (p *paper) append(b api.Batch, room int) api.Errno {
	switch {
	case len(b.Records) == 0:
		return api.ErrArg
	case b.Base != p.next():
		return api.ErrOrder
	case len(written(p.t, b)) > room:
		return api.ErrFull
	}
	p.batches = append(p.batches, b)
	return api.OK
}

func (p *paper) cut(offset int) api.Errno {
	if offset < p.base {
		return api.ErrArg
	}
	n := 0
	for n < len(p.batches) && p.endOf(n+1) <= offset {
		n++
	}
	p.batches = p.batches[:n]
	p.safe = min(p.safe, p.size())
	return api.OK
}

func (p *paper) read(offset, most int) []api.Batch {
	if offset < p.base || offset >= p.next() {
		return nil
	}
	var list []api.Batch
	for i, b := range p.batches {
		if p.endOf(i+1) <= offset {
			continue
		}
		if len(list) > 0 && len(written(p.t, append(list[:len(list):len(list)], b)...)) > most {
			break
		}
		list = append(list, b)
	}
	return list
}

func (p *paper) index() []api.Entry {
	var list []api.Entry
	at := 0
	for i, b := range p.batches {
		if len(list) == 0 || at-list[len(list)-1].Term >= 256 {
			list = append(list, api.Entry{Index: p.endOf(i), Term: at})
		}
		at += len(written(p.t, b))
	}
	return list
}

// crash leaves so many bytes that were not safe: how many of them Open cuts off.
func (p *paper) crash(keep int) int {
	left := p.safe + keep%(p.size()-p.safe+1)
	p.batches = whole(p.t, left, p.batches)
	p.safe = p.size()
	return left - p.safe
}

// wantAs asks for all that the segment tells, and for what its file is.
func (p *paper) wantAs(d *disk.Disk, s *segment.Segment, what string) {
	p.t.Helper()
	if s.Base() != p.base || s.Next() != p.next() || s.Safe() != p.safeEnd() || s.Bytes() != p.size() {
		p.t.Fatalf("%s: %d, %d, %d, %d, want %d, %d, %d, %d", what, s.Base(), s.Next(), s.Safe(), s.Bytes(), p.base, p.next(), p.safeEnd(), p.size())
	}
	if file, _ := d.Read("s"); file != written(p.t, p.batches...) || d.Synced("s") != p.safe {
		p.t.Fatalf("%s: the file has %d bytes, %d are safe, want %d, %d", what, len(file), d.Synced("s"), p.size(), p.safe)
	}
	if got, want := s.Index(), p.index(); len(got) != len(want) || len(want) > 0 && !reflect.DeepEqual(got, want) {
		p.t.Fatalf("%s: Index %v, want %v", what, got, want)
	}
}

// chance makes batches and choices, always the same ones for one seed.
type chance struct{ *rand.Rand }

func (c chance) batch(base int) api.Batch {
	b := api.Batch{Base: base, Epoch: c.Intn(1000)}
	if c.Intn(2) == 0 {
		b.Pid, b.PidEpoch, b.Seq = 1+c.Intn(100), c.Intn(100), c.Intn(900000)
	}
	longest := []int{0, 3, 40, 240}[c.Intn(4)]
	for range 1 + c.Intn(4) {
		b.Records = append(b.Records, api.Record{Key: c.text(longest), Value: c.text(longest), Time: c.Intn(1000)})
	}
	return b
}

func (c chance) text(longest int) string {
	b := make([]byte, c.Intn(longest+1))
	c.Read(b)
	return string(b)
}

// near is an offset from one below the base to a few behind Next.
func (c chance) near(p *paper) int { return p.base - 1 + c.Intn(p.next()-p.base+4) }

func TestWalks(t *testing.T) {
	for seed := range 60 {
		walk(t, chance{rand.New(rand.NewSource(int64(seed)))})
	}
}

func walk(t *testing.T, c chance) {
	t.Helper()
	d := made(t, 1000+c.Intn(9000))
	must(t, d.Replace("other", strings.Repeat("x", c.Intn(500))))
	p := &paper{t: t, base: []int{0, 5, 1000, 900000000}[c.Intn(4)]}
	s := opened(t, d, "s", p.base, 0)
	for i := range 150 {
		what := "step " + strconv.Itoa(i)
		switch c.Intn(12) {
		case 0:
			wantErr(t, what, s.Sync(), api.OK)
			p.safe = p.size()
		case 1:
			if c.Intn(3) == 0 {
				offset := c.near(p)
				wantErr(t, what, s.Cut(offset), p.cut(offset))
			}
		case 2:
			keep := c.Intn(10000)
			d.Crash([]int{keep})
			s = opened(t, d, "s", p.base, p.crash(keep))
		case 3:
			b, room := c.batch(c.near(p)+1), d.Free()
			wantErr(t, what, s.Append(b), p.append(b, room))
		case 4:
			wantErr(t, what, s.Append(batch(p.next(), 0)), api.ErrArg)
		case 5, 6:
			offset, most := c.near(p), c.Intn(2000)-2
			wantRead(t, s, offset, most, p.read(offset, most)...)
		default:
			b, room := c.batch(p.next()), d.Free()
			wantErr(t, what, s.Append(b), p.append(b, room))
		}
		p.wantAs(d, s, what)
	}
	wantAll(t, d, "s", s, p.batches...)
}

// S7: what lies behind the safe batches may be torn anywhere, and have anything behind it.
func TestACrashLeavesABeginningWithAllThatWasSafe(t *testing.T) {
	for safe := range 4 {
		for keep := range 400 {
			d := made(t, 10000)
			s := opened(t, d, "s", 5, 0)
			var list []api.Batch
			for i := range 4 {
				if i == safe {
					must(t, s.Sync())
				}
				list = append(list, batch(s.Next(), 1+i))
				must(t, s.Append(list[i]))
			}
			loose := d.Size("s") - d.Synced("s")
			d.Crash([]int{keep})
			left := d.Size("s")
			stay := whole(t, left, list)
			if len(stay) < safe || keep%(loose+1) == 0 && len(stay) != safe {
				t.Fatalf("%d of %d safe batches are left", len(stay), safe)
			}
			wantAll(t, d, "s", opened(t, d, "s", 5, left-len(written(t, stay...))), stay...)
		}
	}
}

func TestAnythingBehindWhatIsWholeIsCutOff(t *testing.T) {
	c := chance{rand.New(rand.NewSource(7))}
	list := []api.Batch{batch(5, 1), batch(6, 2)}
	whole := written(t, list...)
	for range 300 {
		wantOpen(t, whole+c.text(60), 5, list...)
	}
	torn := written(t, batch(8, 3))
	for range 300 {
		wantOpen(t, whole+torn[:c.Intn(len(torn))]+c.text(60), 5, list...)
	}
	for range 300 {
		wantOpen(t, c.text(200), 5)
	}
}
