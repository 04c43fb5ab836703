package disk_test

import (
	"math/rand"
	"slices"
	"strconv"
	"strings"
	"testing"

	"logboom/api"
	"logboom/disk"
)

// paper is the document's disk as plainly as it can be written: the walks hold the disk against it.
type paper struct {
	size  int
	files []sheet
}

type sheet struct{ name, safe, loose string }

func (p *paper) find(name string) int {
	return slices.IndexFunc(p.files, func(s sheet) bool { return s.name == name })
}

func (p *paper) free() int {
	n := p.size
	for _, s := range p.files {
		n -= len(s.safe) + len(s.loose)
	}
	return n
}

// open is the place of a file that may be made; -1 and why, if it may not.
func (p *paper) open(name string) (int, api.Errno) {
	if name == "" || len(name) > 64 || strings.Trim(name, "abcdefghijklmnopqrstuvwxyz0123456789-.") != "" {
		return -1, api.ErrArg
	}
	if i := p.find(name); i >= 0 {
		return i, api.OK
	}
	if len(p.files) == 256 {
		return -1, api.ErrMany
	}
	p.files = append(p.files, sheet{name: name})
	return len(p.files) - 1, api.OK
}

func (p *paper) drop(i int) { p.files = slices.Delete(p.files, i, i+1) }

func (p *paper) add(name, b string) api.Errno {
	i, e := p.open(name)
	if e != api.OK {
		return e
	}
	if n := p.free(); len(b) > n {
		p.files[i].loose += b[:n]
		return api.ErrFull
	}
	p.files[i].loose += b
	return api.OK
}

func (p *paper) replace(name, b string) api.Errno {
	was := p.find(name)
	i, e := p.open(name)
	if e != api.OK {
		return e
	}
	if s := p.files[i]; len(b) > p.free()+len(s.safe)+len(s.loose) {
		if was < 0 {
			p.drop(i)
		}
		return api.ErrFull
	}
	p.files[i] = sheet{name, b, ""}
	return api.OK
}

func (p *paper) sync(name string) api.Errno {
	i := p.find(name)
	if i < 0 {
		return api.ErrNone
	}
	s := &p.files[i]
	s.safe, s.loose = s.safe+s.loose, ""
	return api.OK
}

func (p *paper) cut(name string, n int) api.Errno {
	i := p.find(name)
	if i < 0 {
		return api.ErrNone
	}
	s := &p.files[i]
	switch {
	case n < 0 || n > len(s.safe)+len(s.loose):
		return api.ErrArg
	case n <= len(s.safe):
		s.safe, s.loose = s.safe[:n], ""
	default:
		s.loose = s.loose[:n-len(s.safe)]
	}
	return api.OK
}

func (p *paper) rename(name, to string) api.Errno {
	if _, e := (&paper{}).open(to); e != api.OK {
		return e
	}
	i := p.find(name)
	if i < 0 {
		return api.ErrNone
	}
	if to == name {
		return api.OK
	}
	if j := p.find(to); j >= 0 {
		p.drop(j)
	}
	p.files[p.find(name)].name = to
	return api.OK
}

func (p *paper) remove(name string) api.Errno {
	i := p.find(name)
	if i < 0 {
		return api.ErrNone
	}
	p.drop(i)
	return api.OK
}

func (p *paper) crash(keep []int) {
	p.sort()
	for i := range p.files {
		s := &p.files[i]
		if s.loose == "" {
			continue
		}
		k := 0
		if len(keep) > 0 {
			k = keep[0]
			if k < 0 {
				k = -1 - k
			}
			k %= len(s.loose) + 1
			keep = keep[1:]
		}
		s.safe, s.loose = s.safe+s.loose[:k], ""
	}
}

func (p *paper) sort() {
	slices.SortFunc(p.files, func(a, b sheet) int { return strings.Compare(a.name, b.name) })
}

func (p *paper) picture() string {
	p.sort()
	var s strings.Builder
	s.WriteString("free " + strconv.Itoa(p.free()))
	for _, f := range p.files {
		b := f.safe + f.loose
		s.WriteString("\n" + f.name + " " + strconv.Itoa(len(b)) + " " + strconv.Itoa(len(f.safe)) + " " + strconv.Quote(b))
	}
	return s.String()
}

// walker plays one call after the other on both, chosen by its numbers.
type walker struct {
	r     *rand.Rand
	names []string
	d     *disk.Disk
	p     *paper
}

func (w *walker) name() string { return w.names[w.r.Intn(len(w.names))] }

func (w *walker) text() string {
	b := make([]byte, w.r.Intn(w.r.Intn(12)+1))
	for i := range b {
		b[i] = byte(w.r.Intn(256))
	}
	return string(b)
}

func (w *walker) keeps() []int {
	keep := make([]int, w.r.Intn(6))
	for i := range keep {
		keep[i] = int(w.r.Uint64() >> w.r.Intn(64))
		if w.r.Intn(2) == 0 {
			keep[i] = ^keep[i]
		}
	}
	return keep
}

// step plays one call; what it was, and both answers.
func (w *walker) step() (string, api.Errno, api.Errno) {
	name, to, b, n := w.name(), w.name(), w.text(), w.r.Intn(16)-2
	switch w.r.Intn(12) {
	case 0, 1, 2, 3:
		return "Append " + name, w.d.Append(name, b), w.p.add(name, b)
	case 4, 5:
		return "Sync " + name, w.d.Sync(name), w.p.sync(name)
	case 6:
		return "Cut " + name, w.d.Cut(name, n), w.p.cut(name, n)
	case 7:
		return "Replace " + name, w.d.Replace(name, b), w.p.replace(name, b)
	case 8:
		return "Rename " + name + " " + to, w.d.Rename(name, to), w.p.rename(name, to)
	case 9:
		return "Remove " + name, w.d.Remove(name), w.p.remove(name)
	case 10:
		w.d = w.d.Clone()
		return "Clone", api.OK, api.OK
	}
	keep := w.keeps()
	w.d.Crash(keep)
	w.p.crash(keep)
	return "Crash", api.OK, api.OK
}

func (w *walker) walk(t *testing.T, steps int) {
	t.Helper()
	for i := range steps {
		what, got, want := w.step()
		if got != want {
			t.Fatalf("step %d, %s: got %d, want %d", i, what, int(got), int(want))
		}
		if g, p := picture(w.d), w.p.picture(); g != p {
			t.Fatalf("step %d, %s: got %s\nwant %s", i, what, g, p)
		}
	}
}

func TestWalksOfFewFiles(t *testing.T) {
	for seed := range int64(200) {
		size := 1 + int(seed)%60
		w := walker{rand.New(rand.NewSource(seed)), []string{"a", "b", "b.1", "c-", "", "B"}, made(t, size), &paper{size: size}}
		w.walk(t, 300)
	}
}

func TestWalksOfManyFiles(t *testing.T) {
	var names []string
	for i := range 300 {
		names = append(names, numbered(i))
	}
	for seed := range int64(4) {
		d, p := crowded(t, 500), &paper{size: 500}
		for i := range api.MaxFiles {
			must(t, p.add(numbered(i), ""))
		}
		w := walker{rand.New(rand.NewSource(seed)), names, d, p}
		w.walk(t, 400)
	}
}

// parts are, by names, the safe bytes of each file, and all its bytes.
func parts(d *disk.Disk) (safe, whole map[string]string) {
	safe, whole = map[string]string{}, map[string]string{}
	for _, name := range d.Names() {
		b, _ := d.Read(name)
		safe[name], whole[name] = b[:d.Synced(name)], b
	}
	return safe, whole
}

// D6

func TestSafeBytesStayThroughAppendsSyncsAndCrashes(t *testing.T) {
	names := []string{"a", "b", "c", "d"}
	for seed := range int64(100) {
		r := rand.New(rand.NewSource(seed))
		w := walker{r: r, names: names, d: made(t, 400)}
		for range 150 {
			safe, whole := parts(w.d)
			crashed := false
			switch r.Intn(4) {
			case 0:
				w.d.Sync(w.name())
			case 1:
				w.d.Crash(w.keeps())
				crashed = true
			default:
				w.d.Append(w.name(), w.text())
			}
			wantSafe(t, w.d, safe)
			if crashed {
				wantBeginnings(t, w.d, whole)
			}
		}
	}
}

func wantSafe(t *testing.T, d *disk.Disk, safe map[string]string) {
	t.Helper()
	if d.Free() < 0 {
		t.Fatalf("Free: %d", d.Free())
	}
	now, _ := parts(d)
	for name, b := range safe {
		if !strings.HasPrefix(now[name], b) {
			t.Fatalf("%s: %q was safe, %q is", name, b, now[name])
		}
	}
}

func wantBeginnings(t *testing.T, d *disk.Disk, whole map[string]string) {
	t.Helper()
	_, now := parts(d)
	if len(now) != len(whole) {
		t.Fatalf("%d files, %d ahead of the crash", len(now), len(whole))
	}
	for name, b := range whole {
		if !strings.HasPrefix(b, now[name]) || d.Synced(name) != d.Size(name) {
			t.Fatalf("%s: %q became %q", name, b, now[name])
		}
	}
}
