package dedup

import (
	"maps"
	"slices"

	"logboom/api"
	"logboom/pieces"
)

// Keep and Load: as bytes, and back.
func (t *Table) Keep() string {
	rest := pieces.AppendInts(nil, len(t.notes))
	for _, pid := range slices.Sorted(maps.Keys(t.notes)) {
		rest = pieces.AppendInts(rest, pid, len(t.notes[pid]))
		for _, x := range t.notes[pid] {
			rest = pieces.AppendInts(rest, x.epoch, x.seq, x.n, x.offset)
		}
	}
	return pieces.Seal(string(rest))
}

func Load(s string) (*Table, api.Errno) {
	rest, e := pieces.Unseal(s)
	if e != api.OK {
		return nil, e
	}
	t := New()
	r := pieces.Read(rest)
	last := 0
	// Each takes a byte at least, so a greater count cannot be theirs; a smaller one ends with the bytes.
	for range r.Count(len(rest)) {
		pid := r.Int()
		list := readNotes(r, len(rest))
		if pid <= last || !isNumber(pid) || len(list) == 0 {
			return nil, api.ErrForm
		}
		t.notes[pid] = list
		last = pid
	}
	if !r.Done() {
		return nil, api.ErrForm
	}
	return t, api.OK
}

// readNotes reads a producer's notes; none, if they may not be a producer's.
func readNotes(r *pieces.Reader, most int) []note {
	var list []note
	for range r.Count(most) {
		x := note{run: run{epoch: r.Int(), seq: r.Int(), n: r.Int()}, offset: r.Int()}
		if !isRight(x) || !follows(list, x) {
			return nil
		}
		list = append(list, x)
	}
	return list
}

// isRight tells whether a note may be that of a batch. (Where bytes end too early there are 0 records.)
func isRight(x note) bool {
	more := x.n - 1
	return isCount(x.n) && isNumber(x.epoch) && x.seq >= 0 && x.seq <= api.MaxSeq-more && x.offset >= 0 && x.offset <= api.MaxOffset-more
}
