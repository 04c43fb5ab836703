package dedup_test

import (
	"math"
	"math/rand"
	"slices"
	"strconv"
	"testing"

	"logboom/api"
	"logboom/dedup"
	"logboom/wire"
)

// paper is the document's table as plainly as it can be written: the walks hold the table against it.
type paper struct{ list []mark }

// of is a producer's notes; epoch is the greatest epoch of some, last the last five of it, next the sequence behind.
func (p *paper) of(pid int) []mark {
	var list []mark
	for _, m := range p.list {
		if m.pid == pid {
			list = append(list, m)
		}
	}
	slices.SortFunc(list, func(a, b mark) int { return a.at - b.at })
	return list
}

func epoch(list []mark) int {
	e := -1
	for _, m := range list {
		e = max(e, m.epoch)
	}
	return e
}

func last(list []mark) []mark {
	e := epoch(list)
	var of []mark
	for _, m := range list {
		if m.epoch == e {
			of = append(of, m)
		}
	}
	for len(of) > 5 {
		of = of[1:]
	}
	return of
}

func next(list []mark) int {
	l := last(list)
	return l[len(l)-1].seq + l[len(l)-1].n
}

func (p *paper) ask(pid, e, seq, n int) (int, api.Errno) {
	for _, x := range []int{pid, e, seq} {
		if x < 0 || x > most {
			return -1, api.ErrArg
		}
	}
	if n < 1 || n > 64 || pid == 0 && e != 0 || pid == 0 && seq != 0 {
		return -1, api.ErrArg
	}
	if pid == 0 {
		return -1, api.OK
	}
	if seq+n-1 > mostSeq {
		return -1, api.ErrOver
	}
	list := p.of(pid)
	if len(list) == 0 || e > epoch(list) {
		if seq == 0 {
			return -1, api.OK
		}
		return -1, api.ErrOrder
	}
	if e < epoch(list) {
		return -1, api.ErrFenced
	}
	for _, m := range last(list) {
		if m.seq == seq && m.n == n {
			return m.at, api.OK
		}
	}
	if seq == next(list) {
		return -1, api.OK
	}
	if seq > next(list) {
		return -1, api.ErrOrder
	}
	return -1, api.ErrDuplicate
}

func (p *paper) note(b api.Batch) {
	if b.Pid == 0 || wire.Right(b) != api.OK {
		return
	}
	list := p.of(b.Pid)
	for _, m := range list {
		if m.at >= b.Base {
			return
		}
	}
	if len(list) > 0 && (b.PidEpoch < epoch(list) || b.PidEpoch == epoch(list) && b.Seq < next(list)) {
		return
	}
	p.list = append(p.list, mark{b.Pid, b.PidEpoch, b.Seq, len(b.Records), b.Base})
}

// ahead is the notes ahead of an offset.
func ahead(list []mark, at int) []mark {
	var left []mark
	for _, m := range list {
		if m.at < at {
			left = append(left, m)
		}
	}
	return left
}

func (p *paper) cut(end int) { p.list = ahead(p.list, end) }

func (p *paper) delete(start int) {
	var left []mark
	for _, m := range p.list {
		if m.at >= start || slices.Contains(last(ahead(p.of(m.pid), start)), m) {
			left = append(left, m)
		}
	}
	p.list = left
}

// wantSame asks that a table answers as the other does, around all that may matter.
func wantSame(t *testing.T, what string, got func(pid, e, seq, n int) (int, api.Errno), want func(pid, e, seq, n int) (int, api.Errno), p *paper) {
	t.Helper()
	for pid := range 5 {
		list := p.of(pid)
		e, seqs := epoch(list), []int{0, 1, mostSeq}
		for _, m := range list[max(0, len(list)-8):] {
			seqs = append(seqs, m.seq, m.seq+1, m.seq+m.n, m.seq+m.n+1)
		}
		slices.Sort(seqs)
		seqs = slices.Compact(seqs)
		for _, e := range []int{max(0, e-2), max(0, e-1), max(0, e), e + 1} {
			for _, seq := range seqs {
				for n := 1; n < 4; n++ {
					a, b := got(pid, e, seq, n)
					if c, d := want(pid, e, seq, n); a != c || b != d {
						t.Fatalf("%s: Ask(%d, %d, %d, %d): got %d, %d, want %d, %d, of %v", what, pid, e, seq, n, a, int(b), c, int(d), list)
					}
				}
			}
		}
	}
}

// chance makes choices, always the same ones for one seed.
type chance struct{ *rand.Rand }

// offset is one near the notes'; sometimes it is any.
func (c chance) offset(p *paper) int {
	switch {
	case c.Intn(60) == 0:
		return []int{-1, 0, most, most + 1, math.MinInt, math.MaxInt}[c.Intn(6)]
	case len(p.list) == 0:
		return c.Intn(5)
	case c.Intn(6) == 0:
		return p.list[c.Intn(len(p.list))].at - 1 + c.Intn(3)
	}
	return p.list[len(p.list)-1].at - 1 + c.Intn(5)
}

// batch is one that may be next, or not at all.
func (c chance) batch(p *paper) api.Batch {
	m := mark{pid: c.Intn(5), n: 1 + c.Intn(3), at: c.offset(p)}
	if list := p.of(m.pid); len(list) > 0 {
		m.epoch, m.seq = epoch(list), next(list)
		switch c.Intn(20) {
		case 0:
			m.epoch++
			m.seq = c.Intn(3)
		case 1:
			m.epoch--
		case 2:
			m.seq += c.Intn(4)
		case 3:
			m.seq -= c.Intn(4)
		case 4:
			m.seq = mostSeq - c.Intn(3)
		}
	} else if m.pid > 0 && c.Intn(3) == 0 {
		m.epoch, m.seq = c.Intn(3), c.Intn(3)
	}
	b := batch(m)
	if c.Intn(50) == 0 {
		b.Records = nil
	}
	return b
}

// D8.1 to D8.4: any calls, one behind the other.
func TestWalks(t *testing.T) {
	for seed := range 100 {
		walk(t, chance{rand.New(rand.NewSource(int64(seed)))})
	}
}

func walk(t *testing.T, c chance) {
	t.Helper()
	x, p := dedup.New(), &paper{}
	for i := range 150 {
		what := "step " + strconv.Itoa(i)
		at := c.offset(p)
		switch c.Intn(25) {
		case 0:
			x.Cut(at)
			p.cut(at)
		case 1, 2:
			x.Delete(at)
			p.delete(at)
		case 3:
			x = wantLoad(t, x.Keep(), api.OK)
		default:
			b := c.batch(p)
			x.Note(b)
			p.note(b)
		}
		slices.SortFunc(p.list, func(a, b mark) int { return a.at - b.at })
		wantNotes(t, what, x, p.list...)
		if i%10 == 0 {
			wantSame(t, what, x.Ask, p.ask, p)
		}
	}
	wantSame(t, "at the end", x.Ask, p.ask, p)
}

// partition is a log that takes just those batches that its table calls new.
type partition struct {
	table *dedup.Table
	// twin is never deleted from.
	twin        *dedup.Table
	start, next int
	// taken is all that was taken and not cut, also what was deleted.
	taken []mark
}

func (l *partition) send(pid, e, seq, n int) {
	at, err := l.table.Ask(pid, e, seq, n)
	if err != api.OK || at != -1 {
		return
	}
	m := mark{pid, e, seq, n, l.next}
	l.taken = append(l.taken, m)
	l.next += n
	l.table.Note(batch(m))
	l.twin.Note(batch(m))
}

// place is one of those from start on.
func (l *partition) place(c chance) int {
	places := []int{l.next}
	for _, m := range l.taken {
		if m.at >= l.start {
			places = append(places, m.at)
		}
	}
	return places[c.Intn(len(places))]
}

func (l *partition) cut(end int) {
	l.taken = ahead(l.taken, end)
	l.next = end
	l.table.Cut(end)
	l.twin.Cut(end)
}

func (l *partition) delete(start int) {
	l.start = start
	l.table.Delete(start)
}

// wantOnce asks that each sequence of an epoch was taken once, in the order of the offsets, without gaps, and that the last five are found.
func (l *partition) wantOnce(t *testing.T, what string) {
	t.Helper()
	type who struct{ pid, epoch int }
	due := map[who]int{}
	p := &paper{}
	for _, m := range l.taken {
		if m.pid == 0 {
			continue
		}
		w := who{m.pid, m.epoch}
		if m.seq != due[w] {
			t.Fatalf("%s: the sequence %d of %v lies at %d, want %d there", what, m.seq, w, m.at, due[w])
		}
		due[w] += m.n
		p.list = append(p.list, m)
	}
	for pid := 1; pid < 5; pid++ {
		for _, m := range last(p.of(pid)) {
			wantOld(t, l.table, m)
		}
	}
	wantSame(t, what+": behind Delete", l.table.Ask, l.twin.Ask, p)
	wantSame(t, what+": as taken", l.twin.Ask, p.ask, p)
	wantNotes(t, what+": not deleted from", l.twin, p.list...)
	wantNotes(t, what+": Load of Keep", wantLoad(t, l.twin.Keep(), api.OK), p.list...)
	again := wantLoad(t, l.table.Keep(), api.OK)
	if again.Keep() != l.table.Keep() {
		t.Fatalf("%s: Keep behind Load: %q, want %q", what, again.Keep(), l.table.Keep())
	}
	wantSame(t, what+": behind Load", again.Ask, l.table.Ask, p)
}

// D8.5
func TestOnce(t *testing.T) {
	taken := 0
	for seed := range 60 {
		c := chance{rand.New(rand.NewSource(int64(seed)))}
		l := &partition{table: dedup.New(), twin: dedup.New()}
		for i := range 200 {
			switch c.Intn(30) {
			case 0:
				l.cut(l.place(c))
			case 1, 2:
				l.delete(l.place(c))
			case 3:
				l.table = wantLoad(t, l.table.Keep(), api.OK)
			case 4:
				l.send(0, 0, 0, 1+c.Intn(3))
			default:
				l.sendSome(c)
			}
			if i%10 == 0 {
				l.wantOnce(t, "step "+strconv.Itoa(i))
			}
		}
		l.wantOnce(t, "at the end")
		taken += len(l.taken)
	}
	if taken < 3000 {
		t.Errorf("only %d batches were taken", taken)
	}
}

// sendSome sends what a producer could: what is next, what was sent, another epoch's.
func (l *partition) sendSome(c chance) {
	pid := 1 + c.Intn(4)
	list := (&paper{l.taken}).of(pid)
	if len(list) == 0 {
		l.send(pid, c.Intn(2), c.Intn(2), 1+c.Intn(3))
		return
	}
	e, seq := epoch(list), next(list)
	switch c.Intn(12) {
	case 0:
		l.send(pid, e+1, 0, 1+c.Intn(3))
	case 1:
		l.send(pid, e-1, c.Intn(5), 1)
	case 2, 3:
		m := list[c.Intn(len(list))]
		l.send(pid, m.epoch, m.seq, m.n)
	case 4:
		l.send(pid, e, max(0, seq-3+c.Intn(6)), 1+c.Intn(3))
	default:
		l.send(pid, e, seq, 1+c.Intn(3))
	}
}

// What is sent again and again, one of the last five, is at its offset, whatever is deleted.
func TestOnceBehindEachDelete(t *testing.T) {
	list := slices.Concat(row(7, 1, 8, 0), row(7, 2, 8, 100))
	for start := range 200 {
		for cut := start; cut < 200; cut++ {
			x, y := noted(t, list...), noted(t, list...)
			x.Delete(start)
			x.Cut(cut)
			y.Cut(cut)
			for _, m := range list {
				for n := 1; n < 3; n++ {
					a, b := x.Ask(7, m.epoch, m.seq, n)
					if c, d := y.Ask(7, m.epoch, m.seq, n); a != c || b != d {
						t.Fatalf("Delete(%d), Cut(%d), Ask(7, %d, %d, %d): got %d, %d, want %d, %d", start, cut, m.epoch, m.seq, n, a, int(b), c, int(d))
					}
				}
			}
		}
	}
}
