package store_test

import (
	"math/rand"
	"slices"
	"strconv"
	"testing"

	"logboom/api"
	"logboom/dedup"
	"logboom/disk"
	"logboom/store"
)

// world is a store that takes just what its table calls new, and a ledger of what it should know.
type world struct {
	t      *testing.T
	d      *disk.Disk
	s      *store.Store
	ledger []lying // what lies in the log, or was deleted, or told by Begin: by rising offsets
	epoch  int     // of the partition
}

func (w *world) open() { w.s = opened(w.t, w.d, 256) }

// send sends what a producer would: it is taken if the table calls it new. An offset that is answered is asked for in the log.
func (w *world) send(pid, epoch, seq, n int) {
	w.t.Helper()
	at, e := w.s.Table().Ask(pid, epoch, seq, n)
	m := lying{pid, epoch, seq, n, at}
	if e != api.OK {
		return
	}
	if at >= 0 {
		w.wantThere(m)
		return
	}
	b := of(w.epoch, pid, seq, n)
	b.PidEpoch = epoch
	m.at = w.s.Log().Next()
	appended(w.t, w.s, b)
	w.ledger = append(w.ledger, m)
}

// wantThere asks that a batch is where the table says, if that is not ahead of the start.
func (w *world) wantThere(m lying) {
	w.t.Helper()
	if m.at < w.s.Log().Start() {
		return
	}
	list, e := w.s.Log().Read(m.at, 1)
	if e != api.OK || len(list) == 0 {
		w.t.Fatalf("%v: nothing lies there, %d", m, int(e))
	}
	if b := list[0]; b.Base != m.at || b.Pid != m.pid || b.PidEpoch != m.epoch || b.Seq != m.seq || len(b.Records) != m.n {
		w.t.Fatalf("%v: there lies %v", m, b)
	}
}

// forget takes from the ledger what stands at an offset, or behind it.
func (w *world) forget(end int) {
	w.ledger = slices.DeleteFunc(slices.Clone(w.ledger), func(m lying) bool { return m.at >= end })
}

// place is one of those of the log.
func (w *world) place(c chance) int {
	list := w.s.Log().All()
	if i := c.Intn(len(list) + 1); i < len(list) {
		return list[i].Base
	}
	return w.s.Log().Next()
}

func (w *world) begin(offset int, pids string) {
	w.t.Helper()
	must(w.t, w.s.Begin(offset, pids))
	w.forget(offset)
}

// crash loses what is not safe, but for as much as keep says.
func (w *world) crash(keep []int) {
	w.t.Helper()
	safe, start := w.s.Log().Safe(), w.s.Log().Start()
	w.d.Crash(keep)
	w.open()
	if w.s.Log().Start() != start || w.s.Log().Next() < safe {
		w.t.Fatalf("Start %d, Next %d, want %d, at least %d", w.s.Log().Start(), w.s.Log().Next(), start, safe)
	}
	w.forget(w.s.Log().Next())
}

// wantOnce asks that no sequence lies in the log twice, nor in the ledger.
func (w *world) wantOnce(what string) {
	w.t.Helper()
	type one struct{ pid, epoch, seq int }
	seen := map[one]int{}
	for _, m := range w.ledger {
		for i := range m.n {
			x := one{m.pid, m.epoch, m.seq + i}
			if at, ok := seen[x]; ok && m.pid != 0 {
				w.t.Fatalf("%s: %v lies at %d, and in the batch at %d", what, x, at, m.at)
			}
			seen[x] = m.at + i
		}
	}
	start := w.s.Log().Start()
	var lie []lying
	for _, b := range w.s.Log().All() {
		lie = append(lie, lying{b.Pid, b.PidEpoch, b.Seq, len(b.Records), b.Base})
	}
	i := slices.IndexFunc(w.ledger, func(m lying) bool { return m.at >= start })
	if i < 0 {
		i = len(w.ledger)
	}
	if !slices.Equal(lie, w.ledger[i:]) {
		w.t.Fatalf("%s: in the log lie %v, want %v", what, lie, w.ledger[i:])
	}
}

// wantAnswers asks that the table answers as one that was never cut short, kept or read again.
func (w *world) wantAnswers(what string) {
	w.t.Helper()
	twin := tableOf(w.ledger...)
	for pid := 1; pid < 5; pid++ {
		for epoch := range 4 {
			for seq := range 40 {
				for n := 1; n < 4; n++ {
					at, e := w.s.Table().Ask(pid, epoch, seq, n)
					if want, e2 := twin.Ask(pid, epoch, seq, n); at != want || e != e2 {
						w.t.Fatalf("%s: Ask(%d, %d, %d, %d): got %d, %d, want %d, %d, of %v", what, pid, epoch, seq, n, at, int(e), want, int(e2), w.ledger)
					}
					if at >= 0 {
						w.wantThere(lying{pid, epoch, seq, n, at})
					}
				}
			}
		}
	}
}

// sendSome sends what is next of a producer, what was sent, what leaves a gap, what is of another epoch.
func (w *world) sendSome(c chance) {
	w.t.Helper()
	if c.Intn(20) == 0 {
		w.send(0, 0, 0, 1+c.Intn(3))
		return
	}
	pid := 1 + c.Intn(4)
	last, had := lying{pid: pid}, []lying{}
	for _, m := range w.ledger {
		if m.pid == pid {
			last = m
			had = append(had, m)
		}
	}
	n := 1 + c.Intn(3)
	switch c.Intn(10) {
	case 0:
		if last.epoch < 3 {
			w.send(pid, last.epoch+1, 0, n)
		}
	case 1:
		w.send(pid, last.epoch, last.seq+last.n+1, n)
	case 2, 3:
		if len(had) > 0 {
			m := had[c.Intn(len(had))]
			w.send(pid, m.epoch, m.seq, m.n)
		}
	case 4:
		w.send(pid, last.epoch, max(0, last.seq-c.Intn(3)), n)
	default:
		w.send(pid, last.epoch, last.seq+last.n, n)
	}
}

// foreign is a table that another store told, of batches ahead of an offset.
func (c chance) foreign(offset int) []lying {
	var list []lying
	next := map[int]lying{}
	for at := max(0, offset-12); at < offset; {
		pid := 1 + c.Intn(4)
		m := next[pid]
		m = lying{pid, m.epoch, m.seq + m.n, 1 + c.Intn(2), at}
		if c.Intn(4) == 0 && m.epoch < 3 {
			m.epoch, m.seq = m.epoch+1, 0
		}
		list, next[pid] = append(list, m), m
		at += m.n
	}
	return list
}

// B5
func TestOnce(t *testing.T) {
	taken := 0
	for seed := range 60 {
		c := chance{rand.New(rand.NewSource(int64(seed)))}
		w := &world{t: t, d: made(t, 1000000)}
		w.open()
		for i := range 150 {
			what := "seed " + strconv.Itoa(seed) + ", step " + strconv.Itoa(i)
			w.step(c)
			w.wantOnce(what)
			if i%25 == 0 {
				w.wantAnswers(what)
			}
		}
		w.wantAnswers("at the end")
		taken += len(w.ledger)
	}
	if taken < 1000 {
		t.Errorf("only %d batches were there at the ends", taken)
	}
}

func (w *world) step(c chance) {
	w.t.Helper()
	switch c.Intn(40) {
	case 0, 1, 2, 3:
		must(w.t, w.s.Sync())
	case 4:
		offset := w.place(c)
		must(w.t, w.s.Cut(offset))
		w.forget(offset)
		w.epoch++
	case 5, 6:
		must(w.t, w.s.Delete(w.place(c)))
	case 7:
		w.refused(c)
	case 8:
		if c.Intn(3) == 0 {
			// Its own table: what lies ahead of the offset is as if it were deleted.
			w.begin(max(0, w.s.Log().Next()-2+c.Intn(6)), w.s.Table().Keep())
		}
	case 9:
		if c.Intn(4) == 0 {
			offset := c.Intn(200)
			w.ledger = c.foreign(offset)
			w.begin(offset, tableOf(w.ledger...).Keep())
		}
	case 10, 11, 12:
		w.crash([]int{c.Intn(3000)})
	default:
		w.sendSome(c)
	}
}

// refused is calls that are refused, and change nothing that would be seen.
func (w *world) refused(c chance) {
	w.t.Helper()
	next := w.s.Log().Next()
	wantErr(w.t, "Delete", w.s.Delete(next+1), api.ErrRange)
	wantErr(w.t, "Cut", w.s.Cut(next+1), api.ErrRange)
	wantErr(w.t, "Begin", w.s.Begin(-1, dedup.New().Keep()), api.ErrArg)
	wantErr(w.t, "Begin", w.s.Begin(5, "junk"), api.ErrSum)
	wantErr(w.t, "Take", w.s.Take(at(next+1, of(w.epoch+c.Intn(2), 1, 0, 1))), api.ErrOrder)
}

// B5: behind a crash Ask answers of safe batches as it did, wherever the log was deleted and cut.
func TestACrashChangesNoAnswerOfSafeBatches(t *testing.T) {
	for start := range 11 {
		for cut := start; cut < 11; cut++ {
			for again := start; again <= cut; again++ {
				d := made(t, 100000)
				s, _ := ten(t, d, big)
				must(t, s.Delete(start), s.Cut(cut), s.Delete(again), s.Sync())
				ask := func() (answers []int) {
					for epoch := range 2 {
						for seq := range 12 {
							at, e := s.Table().Ask(7, epoch, seq, 1)
							answers = append(answers, at, int(e))
						}
					}
					return answers
				}
				before := ask()
				// What is not safe is lost, and its notes with it.
				appended(t, s, of(9, 7, cut, 1), of(9, 8, 0, 2))
				d.Crash(nil)
				s = opened(t, d, big)
				if after := ask(); !slices.Equal(after, before) {
					t.Fatalf("Delete(%d), Cut(%d), Delete(%d): got %v, want %v", start, cut, again, after, before)
				}
			}
		}
	}
}
