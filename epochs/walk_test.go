package epochs_test

import (
	"math/rand"
	"strconv"
	"testing"

	"logboom/api"
	"logboom/disk"
	"logboom/epochs"
)

// paper is the document's cache as plainly as it can be written: the walks hold the cache against it.
type paper struct{ list []pair }

// turn has the entries be those, if the disk takes their file.
func (p *paper) turn(d *disk.Disk, list []pair) api.Errno {
	same := len(list) == len(p.list)
	for i := 0; same && i < len(list); i++ {
		same = list[i] == p.list[i]
	}
	if same {
		return api.OK
	}
	if e := d.Clone().Replace("e", written(list...)); e != api.OK {
		return e
	}
	p.list = list
	return api.OK
}

func (p *paper) begin(d *disk.Disk, epoch, offset int) api.Errno {
	if epoch < 0 || epoch > most || offset < 0 || offset > most {
		return api.ErrArg
	}
	if len(p.list) > 0 {
		last := p.list[len(p.list)-1]
		if epoch == last[0] && offset >= last[1] {
			return api.OK
		}
		if epoch == last[0] || epoch < last[0] {
			return api.ErrFenced
		}
	}
	list := append(p.ahead(offset), pair{epoch, offset})
	if len(list) > 200 {
		return api.ErrMany
	}
	return p.turn(d, list)
}

// ahead is the entries that begin ahead of an offset.
func (p *paper) ahead(offset int) []pair {
	var list []pair
	for _, x := range p.list {
		if x[1] < offset {
			list = append(list, x)
		}
	}
	return list
}

func (p *paper) cut(d *disk.Disk, offset int) api.Errno {
	if offset < 0 || offset > most {
		return api.ErrArg
	}
	return p.turn(d, p.ahead(offset))
}

func (p *paper) delete(d *disk.Disk, offset int) api.Errno {
	if offset < 0 || offset > most {
		return api.ErrArg
	}
	var list []pair
	for i, x := range p.list {
		ends := i+1 < len(p.list)
		if ends && p.list[i+1][1] <= offset {
			continue
		}
		if len(list) == 0 && x[1] < offset {
			x[1] = offset
		}
		list = append(list, x)
	}
	return p.turn(d, list)
}

func (p *paper) end(epoch, next int) (int, int) {
	for i := len(p.list) - 1; i >= 0; i-- {
		if p.list[i][0] > epoch {
			next = p.list[i][1]
			continue
		}
		return p.list[i][0], next
	}
	return -1, -1
}

// wantFollows asks for what follows from any calls: entries rise, and what End tells is not above the epoch asked, and ends where the next one begins.
func wantFollows(t *testing.T, c *epochs.Cache) {
	t.Helper()
	all := c.All()
	if len(all) > 200 {
		t.Fatalf("All: %d entries", len(all))
	}
	for i, x := range all {
		if x.Term < 0 || x.Term > most || x.Index < 0 || x.Index > most || x.Data != "" {
			t.Fatalf("All: %v", x)
		}
		if i > 0 && (x.Term <= all[i-1].Term || x.Index <= all[i-1].Index) {
			t.Fatalf("All: %v ahead of %v", all[i-1], x)
		}
		above, end := most+9, -9
		if i+1 < len(all) {
			above, end = all[i+1].Term, all[i+1].Index
		}
		// All epochs from this one to the next are asked by their first and their last.
		wantEnd(t, c, x.Term, -9, x.Term, end)
		wantEnd(t, c, above-1, -9, x.Term, end)
	}
	first := 0
	if len(all) > 0 {
		first = all[0].Term
	}
	wantEnd(t, c, first-1, -9, -1, -1)
}

// chance makes choices, always the same ones for one seed.
type chance struct{ *rand.Rand }

// near is a number from a bit below the entries' to a bit above; sometimes it is any.
func (c chance) near(p *paper, which int) int {
	switch {
	case c.Intn(150) == 0:
		return []int{-1, 0, most, most + 1}[c.Intn(4)]
	case len(p.list) == 0:
		return c.Intn(5)
	case c.Intn(2) == 0:
		return p.list[c.Intn(len(p.list))][which] - 1 + c.Intn(3)
	}
	return p.list[len(p.list)-1][which] - 1 + c.Intn(6)
}

func TestWalks(t *testing.T) {
	for seed := range 200 {
		walk(t, chance{rand.New(rand.NewSource(int64(seed)))})
	}
}

func walk(t *testing.T, c chance) {
	t.Helper()
	d := made(t, []int{12, 40, 300, 10000}[c.Intn(4)])
	p := &paper{}
	if d.Free() > 9000 && c.Intn(2) == 0 {
		// With room for few more.
		p.list = row(190+c.Intn(11), 0, 0)
		must(t, d.Replace("e", written(p.list...)))
	}
	if c.Intn(4) == 0 {
		crowd(t, d, api.MaxFiles-c.Intn(2))
	}
	cache := opened(t, d, "e")
	for i := range 300 {
		what := "step " + strconv.Itoa(i)
		epoch, offset := c.near(p, 0), c.near(p, 1)
		was := d.Clone()
		switch c.Intn(12) {
		case 0:
			if c.Intn(5) == 0 {
				wantErr(t, what+": Cut", cache.Cut(offset), p.cut(was, offset))
			}
		case 1:
			if c.Intn(3) == 0 {
				wantErr(t, what+": Delete", cache.Delete(offset), p.delete(was, offset))
			}
		case 2:
			next := c.Intn(100)
			got, end := cache.End(epoch, next)
			if wantEpoch, want := p.end(epoch, next); got != wantEpoch || end != want {
				t.Fatalf("%s: End(%d, %d): got %d, %d, want %d, %d", what, epoch, next, got, end, wantEpoch, want)
			}
		case 3:
			// Opened again the cache is as it was, also behind a crash.
			if c.Intn(2) == 0 {
				d.Crash([]int{c.Intn(100)})
			}
			cache = opened(t, d, "e")
		default:
			wantErr(t, what+": Begin("+strconv.Itoa(epoch)+", "+strconv.Itoa(offset)+")", cache.Begin(epoch, offset), p.begin(was, epoch, offset))
		}
		wantAll(t, cache, p.list...)
		wantFollows(t, cache)
		if file, e := d.Read("e"); e == api.OK && file != written(p.list...) || e != api.OK && len(p.list) > 0 {
			t.Fatalf("%s: the file has %.300q, want %.300q", what, file, written(p.list...))
		}
		if d.Synced("e") != d.Size("e") {
			t.Fatalf("%s: %d bytes of %d are safe", what, d.Synced("e"), d.Size("e"))
		}
	}
}

// P7.5: behind Cut nothing begins at the offset or behind it, behind Delete nothing ahead of it; what is left is as it was.
func TestBehindCutAndDelete(t *testing.T) {
	for seed := range 200 {
		c := chance{rand.New(rand.NewSource(int64(seed)))}
		var list []pair
		x := pair{c.Intn(3) - 1, c.Intn(3) - 1}
		for range c.Intn(30) {
			x[0] += 1 + c.Intn(3)
			x[1] += 1 + c.Intn(3)
			list = append(list, x)
		}
		d := made(t, 10000)
		begun(t, d, list...)
		for offset := range x[1] + 4 {
			d := d.Clone()
			must(t, opened(t, d, "e").Cut(offset))
			left := opened(t, d, "e")
			wantFollows(t, left)
			for i, x := range left.All() {
				if x.Index >= offset || x.Term != list[i][0] || x.Index != list[i][1] {
					t.Fatalf("behind Cut(%d) of %v: %v", offset, list, left.All())
				}
			}
			must(t, opened(t, d, "e").Delete(offset))
			wantAll(t, opened(t, d, "e"), moved(left.All(), offset)...)
		}
		for offset := range x[1] + 4 {
			d := d.Clone()
			must(t, opened(t, d, "e").Delete(offset))
			left := opened(t, d, "e")
			wantFollows(t, left)
			for _, x := range left.All() {
				if x.Index < offset {
					t.Fatalf("behind Delete(%d) of %v: %v", offset, list, left.All())
				}
			}
			if len(list) > 0 && left.Last() != list[len(list)-1][0] {
				t.Fatalf("behind Delete(%d) of %v: %v", offset, list, left.All())
			}
		}
	}
}

// moved is what Delete leaves of entries that all begin ahead of the offset: the last, which does not end.
func moved(all []api.Entry, offset int) []pair {
	if len(all) == 0 {
		return nil
	}
	return []pair{{all[len(all)-1].Term, offset}}
}

// P7.5: of the log that had these entries, what Delete leaves tells of each offset that is left the same epoch.
func TestDeleteChangesNoEpochOfWhatIsLeft(t *testing.T) {
	at := func(c *epochs.Cache, offset int) int {
		epoch := -1
		for _, x := range c.All() {
			if x.Index <= offset {
				epoch = x.Term
			}
		}
		return epoch
	}
	for offset := range 60 {
		d := made(t, 1000)
		c := begun(t, d, pair{1, 0}, pair{2, 1}, pair{5, 10}, pair{6, 30}, pair{9, 50})
		was := opened(t, d.Clone(), "e")
		must(t, c.Delete(offset))
		for o := offset; o < 70; o++ {
			if at(c, o) != at(was, o) {
				t.Fatalf("behind Delete(%d): the epoch at %d was %d, is %d", offset, o, at(was, o), at(c, o))
			}
		}
	}
}

// A crash behind each call, and Open anew: all that was told OK stays.
func TestACrashBehindEachCall(t *testing.T) {
	for _, x := range refusals() {
		for _, keep := range [][]int{nil, {0}, {1}, {7}, {-1}} {
			d := made(t, 10000)
			c := begun(t, d, x.list...)
			d.Crash(keep)
			wantAll(t, opened(t, d, "e"), x.list...)
			must(t, x.call(c))
			var list []pair
			for _, x := range c.All() {
				list = append(list, pair{x.Term, x.Index})
			}
			must(t, d.Append("loose", "bytes"))
			d.Crash(keep)
			again := opened(t, d, "e")
			wantKept(t, d, again, list...)
			must(t, again.Cut(0))
			wantAll(t, c, list...)
		}
	}
}
