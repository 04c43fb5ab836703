package segment_test

import (
	"math"
	"testing"

	"logboom/api"
)

// wantIndexOf asks for the index of batches of these sizes, and for that of their file, opened anew.
func wantIndexOf(t *testing.T, sizes []int, pairs ...[2]int) {
	t.Helper()
	d := made(t, api.MaxDisk)
	s := opened(t, d, "s", 100, 0)
	for i, n := range sizes {
		must(t, s.Append(sized(t, 100+i, n)))
	}
	wantIndex(t, s, pairs...)
	wantIndex(t, opened(t, d, "s", 100, 0), pairs...)
}

// S5

func TestIndexOfNothing(t *testing.T) { wantIndexOf(t, nil) }

func TestIndexHasTheFirst(t *testing.T) {
	wantIndexOf(t, []int{30}, [2]int{100, 0})
	wantIndexOf(t, []int{1000}, [2]int{100, 0})
}

func TestIndexHasWhatBegins256BytesBehind(t *testing.T) {
	for _, c := range []struct {
		first int
		in    bool
	}{{254, false}, {255, false}, {256, true}, {257, true}, {1000, true}} {
		if c.in {
			wantIndexOf(t, []int{c.first, 40, 40}, [2]int{100, 0}, [2]int{101, c.first})
			continue
		}
		wantIndexOf(t, []int{c.first, 40, 40}, [2]int{100, 0}, [2]int{102, c.first + 40})
	}
}

func TestIndexCountsFromTheLastOneInIt(t *testing.T) {
	// Begin at 0, 100, 255, 511, 766, 1021.
	wantIndexOf(t, []int{100, 155, 256, 255, 255, 40}, [2]int{100, 0}, [2]int{103, 511}, [2]int{105, 1021})
	// Begin at 0, 100, 256, 355, 511, 512.
	wantIndexOf(t, []int{100, 156, 99, 156, 40}, [2]int{100, 0}, [2]int{102, 256})
	wantIndexOf(t, []int{100, 156, 99, 157, 40}, [2]int{100, 0}, [2]int{102, 256}, [2]int{104, 512})
	wantIndexOf(t, []int{300, 300, 300}, [2]int{100, 0}, [2]int{101, 300}, [2]int{102, 600})
}

func TestIndexTellsBasesNotNumbers(t *testing.T) {
	d := made(t, 10000)
	s := opened(t, d, "s", 7, 0)
	b := batch(7, 60)
	n := len(written(t, b))
	must(t, s.Append(b), s.Append(batch(67, 3)))
	wantIndex(t, s, [2]int{7, 0}, [2]int{67, n})
}

func TestIndexBehindACut(t *testing.T) {
	d := made(t, 100000)
	s := opened(t, d, "s", 100, 0)
	fill := func(sizes ...int) {
		for _, n := range sizes {
			must(t, s.Append(sized(t, s.Next(), n)))
		}
	}
	want := func(pairs ...[2]int) {
		t.Helper()
		wantIndex(t, s, pairs...)
		wantIndex(t, opened(t, d.Clone(), "s", 100, 0), pairs...)
	}
	fill(200, 200, 200, 200, 200) // begin at 0, 200, 400, 600, 800
	want([2]int{100, 0}, [2]int{102, 400}, [2]int{104, 800})
	must(t, s.Cut(104))
	want([2]int{100, 0}, [2]int{102, 400})
	fill(56, 40) // at 800, 856
	want([2]int{100, 0}, [2]int{102, 400}, [2]int{104, 800})
	must(t, s.Cut(103))
	want([2]int{100, 0}, [2]int{102, 400})
	fill(55, 40) // at 600, 655
	want([2]int{100, 0}, [2]int{102, 400})
	must(t, s.Cut(104))
	fill(40) // at 655
	want([2]int{100, 0}, [2]int{102, 400})
	must(t, s.Cut(103))
	fill(56, 40) // at 600, 656
	want([2]int{100, 0}, [2]int{102, 400}, [2]int{104, 656})
	must(t, s.Cut(101))
	want([2]int{100, 0})
	fill(55, 40) // at 200, 255
	want([2]int{100, 0})
	must(t, s.Cut(101))
	fill(56, 40) // at 200, 256
	want([2]int{100, 0}, [2]int{102, 256})
	must(t, s.Cut(100))
	want()
	fill(256, 40)
	want([2]int{100, 0}, [2]int{101, 256})
}

func TestIndexOfWhatTheDiskRefused(t *testing.T) {
	d := made(t, 600)
	s := opened(t, d, "s", 100, 0)
	must(t, s.Append(sized(t, 100, 300)))
	wantErr(t, "Append", s.Append(sized(t, 101, 301)), api.ErrFull)
	wantIndex(t, s, [2]int{100, 0})
	must(t, s.Append(sized(t, 101, 300)))
	wantIndex(t, s, [2]int{100, 0}, [2]int{101, 300})
}

func TestEveryOffsetIsFoundByTheIndex(t *testing.T) {
	d := made(t, api.MaxDisk)
	s := opened(t, d, "s", 100, 0)
	var list []api.Batch
	for i := range 300 {
		b := batch(s.Next(), 1+i*7%5)
		if i%11 == 0 {
			b = sized(t, s.Next(), 256+i)
		}
		must(t, s.Append(b))
		list = append(list, b)
	}
	if n := len(s.Index()); n < 50 {
		t.Fatalf("%d in the index", n)
	}
	for i, b := range list {
		for j := range b.Records {
			wantRead(t, s, b.Base+j, 0, b)
		}
		if i%20 == 0 {
			wantRead(t, s, b.Base, math.MaxInt, list[i:]...)
		}
	}
	for i := len(list) - 1; i >= 0; i-- {
		b := list[i]
		must(t, s.Cut(b.Base+len(b.Records)-1))
		if s.Next() != b.Base || s.Safe() != 100 || s.Bytes() != d.Size("s") {
			t.Fatalf("Cut of batch %d: Next %d, Safe %d", i, s.Next(), s.Safe())
		}
	}
}
