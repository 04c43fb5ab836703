package dedup_test

import (
	"encoding/binary"
	"hash/crc32"
	"math"
	"slices"
	"strings"
	"testing"

	"logboom/api"
	"logboom/dedup"
)

const (
	most    = api.MaxOffset
	mostSeq = api.MaxSeq
)

// mark is a note, by another hand than the program's: n records of a producer's epoch, from seq on, at an offset.
type mark struct{ pid, epoch, seq, n, at int }

// batch is one that is noted so.
func batch(m mark) api.Batch {
	return api.Batch{Base: m.at, Epoch: 3, Pid: m.pid, PidEpoch: m.epoch, Seq: m.seq, Records: make([]api.Record, m.n)}
}

// ints is numbers one behind the other.
func ints(list ...int) string {
	var b []byte
	for _, n := range list {
		b = binary.AppendVarint(b, int64(n))
	}
	return string(b)
}

// sealed is bytes with their checksum.
func sealed(rest string) string {
	sum := crc32.Checksum([]byte(rest), crc32.MakeTable(crc32.Castagnoli))
	return string(binary.BigEndian.AppendUint32(nil, sum)) + rest
}

// written is what Keep tells of those notes; each producer's stand in the order that they are handed in.
func written(list ...mark) string {
	of := map[int][]mark{}
	var pids []int
	for _, m := range list {
		if len(of[m.pid]) == 0 {
			pids = append(pids, m.pid)
		}
		of[m.pid] = append(of[m.pid], m)
	}
	slices.Sort(pids)
	rest := ints(len(pids))
	for _, pid := range pids {
		rest += ints(pid, len(of[pid]))
		for _, m := range of[pid] {
			rest += ints(m.epoch, m.seq, m.n, m.at)
		}
	}
	return sealed(rest)
}

// noted is a table with those notes.
func noted(t *testing.T, list ...mark) *dedup.Table {
	t.Helper()
	x := dedup.New()
	for _, m := range list {
		x.Note(batch(m))
	}
	wantNotes(t, "noted", x, list...)
	return x
}

// row is so many notes of a producer's epoch, of two records each, from an offset on.
func row(pid, epoch, n, at int) []mark {
	var list []mark
	for i := range n {
		list = append(list, mark{pid, epoch, 2 * i, 2, at + 10*i})
	}
	return list
}

func wantNotes(t *testing.T, what string, x *dedup.Table, list ...mark) {
	t.Helper()
	if got, want := x.Keep(), written(list...); got != want {
		t.Fatalf("%s: got %.300q, want %.300q of %.300v", what, got, want, list)
	}
}

func wantAsk(t *testing.T, x *dedup.Table, pid, epoch, seq, n, at int, want api.Errno) {
	t.Helper()
	if got, e := x.Ask(pid, epoch, seq, n); got != at || e != want {
		t.Fatalf("Ask(%d, %d, %d, %d): got %d, %d, want %d, %d", pid, epoch, seq, n, got, int(e), at, int(want))
	}
}

// wantNew, wantOld and wantNo ask for a batch that is new, that is there, and that is refused.
func wantNew(t *testing.T, x *dedup.Table, pid, epoch, seq, n int) {
	t.Helper()
	wantAsk(t, x, pid, epoch, seq, n, -1, api.OK)
}

func wantOld(t *testing.T, x *dedup.Table, m mark) {
	t.Helper()
	wantAsk(t, x, m.pid, m.epoch, m.seq, m.n, m.at, api.OK)
}

func wantNo(t *testing.T, x *dedup.Table, pid, epoch, seq, n int, want api.Errno) {
	t.Helper()
	wantAsk(t, x, pid, epoch, seq, n, -1, want)
}

// tables are some to be asked: without notes, with some, with the greatest that may be.
func tables(t *testing.T) []*dedup.Table {
	return []*dedup.Table{
		dedup.New(),
		noted(t, mark{1, 1, 0, 2, 5}, mark{7, 1, 0, 2, 10}, mark{most, 4, 0, 1, 12}),
		noted(t, mark{7, most, mostSeq, 1, most}, mark{1, 1, mostSeq - 63, 64, most - 63}),
	}
}

// D8.1

func TestNewHasNoNotes(t *testing.T) {
	x := dedup.New()
	wantNotes(t, "New", x)
	for _, pid := range []int{1, 2, 1000, most} {
		wantNew(t, x, pid, 0, 0, 1)
	}
	x.Note(batch(mark{1, 0, 0, 1, 0}))
	wantNotes(t, "another New", dedup.New())
}

func TestAskRefusesOtherNumbers(t *testing.T) {
	for _, x := range tables(t) {
		for _, n := range []int{-1, -2, most + 1, most + 2, -most, math.MinInt, math.MaxInt, 1 << 32, -1 << 32} {
			wantNo(t, x, n, 0, 0, 1, api.ErrArg)
			wantNo(t, x, 7, n, 0, 1, api.ErrArg)
			wantNo(t, x, 7, 0, n, 1, api.ErrArg)
			wantNo(t, x, 7, most, n, 1, api.ErrArg)
			wantNo(t, x, 9, n, n, 1, api.ErrArg)
			wantNo(t, x, n, n, n, n, api.ErrArg)
			wantNo(t, x, 0, n, 0, 1, api.ErrArg)
			wantNo(t, x, 0, 0, n, 1, api.ErrArg)
		}
		for _, n := range []int{-1, 0, 65, 66, -64, math.MinInt, math.MaxInt, 1<<32 + 1} {
			wantNo(t, x, 9, 0, 0, n, api.ErrArg)
			wantNo(t, x, 7, most, 0, n, api.ErrArg)
			wantNo(t, x, 0, 0, 0, n, api.ErrArg)
			wantNo(t, x, 9, 0, mostSeq, n, api.ErrArg)
		}
	}
}

func TestAskTakesTheGreatestNumbers(t *testing.T) {
	x := dedup.New()
	for _, pid := range []int{1, 2, most - 1, most} {
		for _, epoch := range []int{0, 1, most - 1, most} {
			for _, n := range []int{1, 2, 63, 64} {
				wantNew(t, x, pid, epoch, 0, n)
				wantNo(t, x, pid, epoch, 1, n, api.ErrOrder)
				wantNo(t, x, pid, epoch, most, n, api.ErrOver)
				wantNo(t, x, pid, epoch, most-1, n, api.ErrOver)
			}
		}
	}
}

func TestAskOfNobody(t *testing.T) {
	for _, x := range tables(t) {
		x.Note(batch(mark{0, 0, 0, 1, 90}))
		for _, n := range []int{1, 2, 63, 64} {
			wantNew(t, x, 0, 0, 0, n)
			for _, other := range []int{1, 2, mostSeq, mostSeq + 1, most} {
				wantNo(t, x, 0, other, 0, n, api.ErrArg)
				wantNo(t, x, 0, 0, other, n, api.ErrArg)
				wantNo(t, x, 0, other, other, n, api.ErrArg)
			}
		}
	}
}

func TestAskOfASequenceThatGoesOver(t *testing.T) {
	fenced := noted(t, mark{7, 5, 0, 1, 10})
	for _, n := range []int{1, 2, 10, 63, 64} {
		last := mostSeq - n + 1
		for _, x := range tables(t)[:2] {
			wantNo(t, x, 9, 0, last, n, api.ErrOrder)
			for _, seq := range []int{last + 1, last + 2, mostSeq + 1, most} {
				wantNo(t, x, 9, 0, seq, n, api.ErrOver)
				wantNo(t, x, 7, 1, seq, n, api.ErrOver)
				wantNo(t, x, 7, 2, seq, n, api.ErrOver)
				wantNo(t, x, 7, 0, seq, n, api.ErrOver)
			}
		}
		// Ahead of its being fenced, and of a gap; behind numbers that may not be.
		wantNo(t, fenced, 7, 4, last, n, api.ErrFenced)
		wantNo(t, fenced, 7, 4, last+1, n, api.ErrOver)
		wantNo(t, fenced, 7, 5, last+1, n, api.ErrOver)
		wantNo(t, fenced, 7, -1, last+1, n, api.ErrArg)
		wantNo(t, fenced, 7, 4, last+1, 65, api.ErrArg)
		wantNo(t, fenced, 0, 0, last+1, n, api.ErrArg)
		// At NEXT, too.
		x := noted(t, mark{7, 5, last - 1, 1, 10})
		wantNew(t, x, 7, 5, last, n)
		x = noted(t, mark{7, 5, last, 1, 10})
		wantNo(t, x, 7, 5, last+1, n, api.ErrOver)
	}
	end := mark{7, 5, mostSeq, 1, 10}
	x := noted(t, end)
	wantOld(t, x, end)
	wantNo(t, x, 7, 5, mostSeq, 2, api.ErrOver)
	wantNo(t, x, 7, 5, mostSeq+1, 1, api.ErrOver)
	wantNew(t, x, 7, 6, 0, 1)
	end = mark{7, 5, mostSeq - 63, 64, 10}
	wantOld(t, noted(t, end), end)
}

func TestAskOfAProducerWithoutNotes(t *testing.T) {
	for _, x := range tables(t) {
		for _, epoch := range []int{0, 1, 5, most} {
			wantNew(t, x, 9, epoch, 0, 1)
			wantNew(t, x, 9, epoch, 0, 64)
			for _, seq := range []int{1, 2, 64, mostSeq - 63} {
				wantNo(t, x, 9, epoch, seq, 1, api.ErrOrder)
				wantNo(t, x, 9, epoch, seq, 64, api.ErrOrder)
			}
		}
	}
}

func TestAskOfEpochs(t *testing.T) {
	// The sequences of epoch 2 are those of 4, too, and there are more of them.
	list := []mark{{7, 2, 0, 1, 10}, {7, 2, 1, 2, 11}, {7, 2, 3, 1, 13}, {7, 4, 0, 1, 20}, {7, 4, 1, 1, 21}}
	x := noted(t, list...)
	for _, epoch := range []int{0, 1, 2, 3} {
		for _, seq := range []int{0, 1, 2, 3, 4, 5, mostSeq} {
			wantNo(t, x, 7, epoch, seq, 1, api.ErrFenced)
		}
		wantNo(t, x, 7, epoch, 1, 2, api.ErrFenced)
	}
	wantOld(t, x, list[3])
	wantOld(t, x, list[4])
	wantNew(t, x, 7, 4, 2, 1)
	// What only the epoch ahead has is a gap here.
	wantNo(t, x, 7, 4, 3, 1, api.ErrOrder)
	wantNo(t, x, 7, 4, 1, 2, api.ErrDuplicate)
	for _, epoch := range []int{5, 6, most} {
		wantNew(t, x, 7, epoch, 0, 1)
		wantNew(t, x, 7, epoch, 0, 64)
		for _, seq := range []int{1, 2, 3, mostSeq} {
			wantNo(t, x, 7, epoch, seq, 1, api.ErrOrder)
		}
	}
	// An epoch that begins behind 0, as a log may have it.
	x = noted(t, mark{7, 4, 9, 2, 20})
	for seq := range 11 {
		if seq != 9 {
			wantNo(t, x, 7, 4, seq, 2, api.ErrDuplicate)
		}
	}
	wantOld(t, x, mark{7, 4, 9, 2, 20})
	wantNew(t, x, 7, 4, 11, 2)
}

func TestAskOfTheLastFive(t *testing.T) {
	for n := 1; n < 12; n++ {
		list := row(7, 3, n, 100)
		x := noted(t, append(row(7, 1, 8, 0), list...)...)
		for i, m := range list {
			if i < n-5 {
				wantNo(t, x, 7, 3, m.seq, 2, api.ErrDuplicate)
			} else {
				wantOld(t, x, m)
			}
			// Another number of records, and a sequence amid a batch, are none of them.
			for _, records := range []int{1, 3, 4, 64} {
				wantNo(t, x, 7, 3, m.seq, records, api.ErrDuplicate)
			}
			for _, records := range []int{1, 2, 3} {
				wantNo(t, x, 7, 3, m.seq+1, records, api.ErrDuplicate)
			}
		}
		next := 2 * n
		for _, records := range []int{1, 2, 64} {
			wantNo(t, x, 7, 3, next-1, records, api.ErrDuplicate)
			wantNew(t, x, 7, 3, next, records)
			wantNo(t, x, 7, 3, next+1, records, api.ErrOrder)
			wantNo(t, x, 7, 3, mostSeq-63, records, api.ErrOrder)
		}
	}
}

// Notes may have gaps: what lies in one is neither there nor new.
func TestAskOfAGap(t *testing.T) {
	list := []mark{{7, 0, 3, 2, 10}, {7, 0, 8, 1, 12}}
	x := noted(t, list...)
	for _, seq := range []int{0, 1, 2, 4, 5, 6, 7} {
		wantNo(t, x, 7, 0, seq, 1, api.ErrDuplicate)
	}
	wantOld(t, x, list[0])
	wantOld(t, x, list[1])
	wantNew(t, x, 7, 0, 9, 1)
	wantNo(t, x, 7, 0, 10, 1, api.ErrOrder)
}

func TestAskOfOneProducerAmongOthers(t *testing.T) {
	x := noted(t, mark{6, 9, 0, 1, 10}, mark{7, 2, 0, 3, 11}, mark{8, 0, 0, 1, 14}, mark{8, 0, 1, 1, 15})
	wantOld(t, x, mark{6, 9, 0, 1, 10})
	wantOld(t, x, mark{7, 2, 0, 3, 11})
	wantOld(t, x, mark{8, 0, 1, 1, 15})
	wantNo(t, x, 6, 0, 0, 1, api.ErrFenced)
	wantNew(t, x, 6, 9, 1, 1)
	wantNew(t, x, 7, 2, 3, 1)
	wantNew(t, x, 8, 0, 2, 1)
	wantNew(t, x, 9, 0, 0, 1)
}

func TestAskingChangesNothing(t *testing.T) {
	list := append(row(7, 3, 8, 100), row(8, 1, 3, 105)...)
	x := noted(t, list...)
	for range 2 {
		for seq := range 20 {
			for epoch := range 6 {
				x.Ask(7, epoch, seq, 2)
				x.Ask(9, epoch, seq, 2)
			}
		}
		wantNotes(t, "asked", x, list...)
	}
}

// D8.2

// wantPassed asks that a batch is not noted.
func wantPassed(t *testing.T, what string, b api.Batch, list ...mark) {
	t.Helper()
	x := noted(t, list...)
	x.Note(b)
	wantNotes(t, what, x, list...)
}

// wantNoted asks that there is a note of it.
func wantNoted(t *testing.T, m mark, list ...mark) {
	t.Helper()
	x := noted(t, list...)
	x.Note(batch(m))
	wantNotes(t, "Note", x, append(slices.Clone(list), m)...)
	wantOld(t, x, m)
}

func TestNoteOfNobody(t *testing.T) {
	for _, list := range [][]mark{nil, {{7, 0, 0, 1, 10}}} {
		for _, at := range []int{0, 10, 20, most} {
			wantPassed(t, "Pid 0", batch(mark{0, 0, 0, 1, at}), list...)
		}
	}
}

func TestNoteOfWhatIsNotRight(t *testing.T) {
	with := func(turn func(*api.Batch)) api.Batch {
		b := batch(mark{7, 5, 20, 2, 30})
		turn(&b)
		return b
	}
	for _, list := range [][]mark{nil, {{7, 5, 0, 1, 10}}} {
		wantNoted(t, mark{7, 5, 20, 2, 30}, list...)
		for what, b := range map[string]api.Batch{
			"no records":            with(func(b *api.Batch) { b.Records = nil }),
			"65 records":            with(func(b *api.Batch) { b.Records = make([]api.Record, 65) }),
			"a base below 0":        with(func(b *api.Batch) { b.Base = -1 }),
			"a base that is over":   with(func(b *api.Batch) { b.Base = most }),
			"the greatest base":     with(func(b *api.Batch) { b.Base = math.MaxInt }),
			"an epoch below 0":      with(func(b *api.Batch) { b.Epoch = -1 }),
			"an epoch above all":    with(func(b *api.Batch) { b.Epoch = most + 1 }),
			"a pid below 0":         with(func(b *api.Batch) { b.Pid = -1 }),
			"a pid above all":       with(func(b *api.Batch) { b.Pid = most + 1 }),
			"no pid, but the rest":  with(func(b *api.Batch) { b.Pid = 0 }),
			"a pid's epoch below 0": with(func(b *api.Batch) { b.PidEpoch = -1 }),
			"a pid's epoch above":   with(func(b *api.Batch) { b.PidEpoch = most + 1 }),
			"a sequence below 0":    with(func(b *api.Batch) { b.Seq = -1 }),
			"a sequence over":       with(func(b *api.Batch) { b.Seq = mostSeq }),
			"a time below 0":        with(func(b *api.Batch) { b.Records[1].Time = -1 }),
			"a time above all":      with(func(b *api.Batch) { b.Records[1].Time = most + 1 }),
			"a long key":            with(func(b *api.Batch) { b.Records[1].Key = strings.Repeat("k", 1001) }),
			"a long value":          with(func(b *api.Batch) { b.Records[1].Value = strings.Repeat("v", 1001) }),
			"too many bytes": with(func(b *api.Batch) {
				b.Records = slices.Repeat([]api.Record{{Key: strings.Repeat("k", 1000), Value: strings.Repeat("v", 1000)}}, 3)
			}),
			"nothing": {},
		} {
			wantPassed(t, what, b, list...)
		}
	}
}

func TestNoteOfTheGreatest(t *testing.T) {
	for _, m := range []mark{{1, 0, 0, 1, 0}, {most, most, mostSeq, 1, most}, {most, most, mostSeq - 63, 64, most - 63}, {1, 0, 0, 64, 0}, {1, 0, 77, 1, 0}} {
		wantNoted(t, m)
	}
}

func TestNoteAtOffsets(t *testing.T) {
	list := []mark{{7, 2, 0, 1, 10}, {7, 2, 1, 5, 20}}
	for _, epoch := range []int{2, 3} {
		for _, at := range []int{0, 9, 10, 11, 15, 19, 20} {
			wantPassed(t, "at an offset that is taken, or ahead", batch(mark{7, epoch, 6, 1, at}), list...)
		}
		// A note stands at its first offset alone.
		for _, at := range []int{21, 22, 24, 25, 26, 1000, most} {
			wantNoted(t, mark{7, epoch, 6, 1, at}, list...)
		}
	}
	for _, at := range []int{0, 9, 10, 15, 20, 25} {
		wantNoted(t, mark{8, 0, 0, 1, at}, list...)
		wantNoted(t, mark{6, 0, 6, 1, at}, list...)
	}
	wantPassed(t, "once more", batch(list[1]), list...)
	wantPassed(t, "an earlier one once more", batch(list[0]), list...)
}

func TestNoteOfEpochs(t *testing.T) {
	list := []mark{{7, 2, 0, 4, 10}, {7, 4, 0, 3, 20}}
	for _, epoch := range []int{0, 1, 2, 3} {
		for _, seq := range []int{0, 2, 3, 4, 5, mostSeq} {
			wantPassed(t, "an epoch below", batch(mark{7, epoch, seq, 1, 30}), list...)
		}
	}
	for _, seq := range []int{0, 1, 2} {
		wantPassed(t, "a sequence below", batch(mark{7, 4, seq, 1, 30}), list...)
		wantPassed(t, "a sequence below, with more records", batch(mark{7, 4, seq, 9, 30}), list...)
	}
	for _, seq := range []int{3, 4, 5, 1000, mostSeq} {
		wantNoted(t, mark{7, 4, seq, 1, 30}, list...)
	}
	for _, epoch := range []int{5, 6, most} {
		for _, seq := range []int{0, 1, 2, 3, 1000, mostSeq} {
			wantNoted(t, mark{7, epoch, seq, 1, 30}, list...)
		}
	}
	// The other producers' epochs and sequences are theirs.
	wantNoted(t, mark{8, 0, 0, 1, 30}, list...)
	// NEXT behind the last sequence of all.
	end := mark{7, 4, mostSeq, 1, 20}
	wantPassed(t, "behind the last sequence", batch(mark{7, 4, mostSeq, 1, 30}), end)
	wantNoted(t, mark{7, 5, 0, 1, 30}, end)
}

// A batch's own epoch, of its leader, does not matter, nor what its records are.
func TestNoteOfOtherBatches(t *testing.T) {
	x := noted(t, mark{7, 2, 0, 1, 10})
	b := batch(mark{7, 2, 1, 2, 11})
	b.Epoch = 0
	b.Records[0] = api.Record{Key: "k", Value: "v", Time: most}
	x.Note(b)
	wantNotes(t, "Note", x, mark{7, 2, 0, 1, 10}, mark{7, 2, 1, 2, 11})
}

func TestNoteLeavesWhatIsHandedIn(t *testing.T) {
	records := []api.Record{{Key: "a", Time: 1}, {Key: "b", Time: 2}, {Key: "behind", Time: -1}}
	was := slices.Clone(records)
	b := api.Batch{Base: 10, Pid: 7, PidEpoch: 2, Records: records[:2]}
	x := dedup.New()
	x.Note(b)
	if !slices.Equal(records, was) {
		t.Errorf("the records are %v", records)
	}
	b.Base, b.Pid, b.Records = 99, 98, nil
	records[0].Time = -1
	wantNotes(t, "later", x, mark{7, 2, 0, 2, 10})
}

// D8.3

func TestCut(t *testing.T) {
	list := []mark{{7, 1, 0, 5, 10}, {8, 0, 0, 1, 15}, {7, 1, 5, 1, 20}, {7, 2, 0, 1, 30}, {9, 0, 0, 1, 30}, {8, 0, 1, 1, 31}}
	for _, c := range []struct{ end, left int }{{math.MinInt, 0}, {-1, 0}, {0, 0}, {9, 0}, {10, 0}, {11, 1}, {12, 1}, {14, 1}, {15, 1}, {16, 2}, {19, 2}, {20, 2}, {21, 3}, {29, 3}, {30, 3}, {31, 5}, {32, 6}, {most, 6}, {most + 1, 6}, {math.MaxInt, 6}} {
		x := noted(t, list...)
		for range 2 {
			x.Cut(c.end)
			wantNotes(t, "Cut", x, list[:c.left]...)
		}
		// What was cut away may be noted anew.
		for _, m := range list[c.left:] {
			x.Note(batch(m))
		}
		wantNotes(t, "noted anew", x, list...)
	}
	x := dedup.New()
	x.Cut(0)
	wantNotes(t, "Cut of nothing", x)
}

func TestCutAndThenOthers(t *testing.T) {
	x := noted(t, mark{7, 0, 0, 2, 10}, mark{7, 1, 0, 1, 12}, mark{7, 1, 1, 1, 13})
	x.Cut(12)
	wantNew(t, x, 7, 0, 2, 1)
	wantNew(t, x, 7, 1, 0, 1)
	x.Note(batch(mark{7, 0, 2, 3, 11}))
	wantNotes(t, "noted", x, mark{7, 0, 0, 2, 10}, mark{7, 0, 2, 3, 11})
	wantNew(t, x, 7, 0, 5, 1)
	x.Cut(0)
	wantNew(t, x, 7, 0, 0, 1)
	wantNo(t, x, 7, 0, 2, 1, api.ErrOrder)
	x.Note(batch(mark{7, 0, 0, 1, 3}))
	wantNotes(t, "noted from the beginning", x, mark{7, 0, 0, 1, 3})
}

// What was sixth is one of the last five again, when those behind it are cut.
func TestCutBringsBackTheLastFive(t *testing.T) {
	list := row(7, 3, 12, 100)
	for n := range list {
		x := noted(t, list...)
		x.Cut(list[n].at)
		for i, m := range list[:n] {
			if i < n-5 {
				wantNo(t, x, 7, 3, m.seq, 2, api.ErrDuplicate)
			} else {
				wantOld(t, x, m)
			}
		}
		wantNew(t, x, 7, 3, 2*n, 1)
	}
}

// wantDeleted asks that Delete leaves those, also if it comes twice.
func wantDeleted(t *testing.T, start int, list []mark, left ...mark) {
	t.Helper()
	x := noted(t, list...)
	for range 2 {
		x.Delete(start)
		wantNotes(t, "Delete", x, left...)
	}
}

func TestDeleteOfOneEpoch(t *testing.T) {
	for _, n := range []int{1, 4, 5, 6, 7, 12} {
		list := row(7, 3, n, 100)
		for ahead := range n + 1 {
			left := list[max(0, ahead-5):]
			starts := []int{100 + 10*ahead}
			if ahead > 0 {
				starts = append(starts, 100+10*ahead-1, 100+10*ahead-9)
			}
			for _, start := range starts {
				wantDeleted(t, start, list, left...)
			}
		}
		for _, start := range []int{math.MinInt, -1, 0, 1, 99, 100} {
			wantDeleted(t, start, list, list...)
		}
		for _, start := range []int{10000, most, most + 1, math.MaxInt} {
			wantDeleted(t, start, list, list[max(0, n-5):]...)
		}
	}
	wantDeleted(t, 0, nil)
	wantDeleted(t, most, nil)
}

func TestDeleteOfSeveralEpochs(t *testing.T) {
	// At 100 to 160 epoch 1, at 200 to 210 epoch 2, at 300 to 360 epoch 4.
	one, two, four := row(7, 1, 7, 100), row(7, 2, 2, 200), row(7, 4, 7, 300)
	all := slices.Concat(one, two, four)
	for _, start := range []int{-1, 0, 99, 100, 101, 150} {
		wantDeleted(t, start, all, all...)
	}
	wantDeleted(t, 151, all, all[1:]...)
	for _, start := range []int{161, 199, 200} {
		wantDeleted(t, start, all, all[2:]...)
	}
	for _, start := range []int{201, 210, 211, 299, 300} {
		// Of epoch 2 there are fewer than five: none of epoch 1 is left for it.
		wantDeleted(t, start, all, all[7:]...)
	}
	for _, start := range []int{301, 310, 349, 350} {
		wantDeleted(t, start, all, four...)
	}
	wantDeleted(t, 351, all, four[1:]...)
	wantDeleted(t, 360, all, four[1:]...)
	for _, start := range []int{361, 362, most, math.MaxInt} {
		wantDeleted(t, start, all, four[2:]...)
	}
}

func TestDeleteOfSeveralProducers(t *testing.T) {
	seven, eight, nine := row(7, 1, 8, 100), row(8, 3, 8, 105), row(9, 2, 8, 500)
	late := mark{8, 9, 0, 1, 400}
	all := slices.Concat(seven, eight, []mark{late}, nine)
	wantDeleted(t, 170, all, slices.Concat(seven[2:], eight[2:], []mark{late}, nine)...)
	wantDeleted(t, 171, all, slices.Concat(seven[3:], eight[2:], []mark{late}, nine)...)
	wantDeleted(t, 176, all, slices.Concat(seven[3:], eight[3:], []mark{late}, nine)...)
	wantDeleted(t, 401, all, slices.Concat(seven[3:], []mark{late}, nine)...)
	wantDeleted(t, 1000, all, slices.Concat(seven[3:], []mark{late}, nine[3:])...)
}

// Delete with an earlier start changes nothing more, with a later one it does; the notes go on behind it.
func TestDeleteAndThenOthers(t *testing.T) {
	list := row(7, 3, 8, 100)
	x := noted(t, list...)
	x.Delete(160)
	wantNotes(t, "Delete", x, list[1:]...)
	for _, start := range []int{-1, 0, 110, 150, 160} {
		x.Delete(start)
		wantNotes(t, "an earlier Delete", x, list[1:]...)
	}
	x.Note(batch(mark{7, 3, 16, 2, 180}))
	list = append(list, mark{7, 3, 16, 2, 180})
	wantNotes(t, "Note", x, list[1:]...)
	x.Delete(181)
	wantNotes(t, "a later Delete", x, list[4:]...)
	x.Cut(150)
	wantNotes(t, "Cut", x, list[4:5]...)
	x.Note(batch(mark{7, 3, 10, 1, 150}))
	wantNotes(t, "noted behind the cut", x, list[4], mark{7, 3, 10, 1, 150})
	x.Cut(140)
	wantNotes(t, "Cut of all that is left", x)
	wantNew(t, x, 7, 0, 0, 1)
}

// P1: a table that New did not make is one without notes.
func TestATableThatNewDidNotMake(t *testing.T) {
	for _, turn := range []func(x *dedup.Table){
		func(x *dedup.Table) {},
		func(x *dedup.Table) { x.Cut(0) },
		func(x *dedup.Table) { x.Delete(9) },
		func(x *dedup.Table) { x.Note(api.Batch{}) },
	} {
		x := &dedup.Table{}
		turn(x)
		wantNew(t, x, 7, 0, 0, 1)
		wantNo(t, x, 7, 0, 1, 1, api.ErrOrder)
		wantNotes(t, "no notes", x)
		x.Note(batch(mark{7, 0, 0, 1, 10}))
		wantNotes(t, "one note", x, mark{7, 0, 0, 1, 10})
	}
}

// The chapter's examples

func TestExamples(t *testing.T) {
	x := dedup.New()
	wantNew(t, x, 7, 0, 0, 2)
	x.Note(batch(mark{7, 0, 0, 2, 10}))
	wantOld(t, x, mark{7, 0, 0, 2, 10})
	wantNew(t, x, 7, 0, 2, 1)
	wantNo(t, x, 7, 0, 3, 1, api.ErrOrder)
	wantNo(t, x, 7, 0, 1, 1, api.ErrDuplicate)

	wantNew(t, x, 7, 1, 0, 1)
	wantNo(t, x, 7, 1, 5, 1, api.ErrOrder)
	wantNo(t, x, 8, 0, 3, 1, api.ErrOrder)
	wantNew(t, x, 0, 0, 0, 1)

	x.Note(batch(mark{7, 1, 0, 1, 12}))
	wantNo(t, x, 7, 0, 2, 1, api.ErrFenced)
	x.Cut(12)
	wantNew(t, x, 7, 0, 2, 1)

	x.Cut(10)
	wantNew(t, x, 7, 0, 0, 2)
}
