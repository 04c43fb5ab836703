package timer_test

import (
	"math"
	"math/rand"
	"slices"
	"strconv"
	"testing"

	"logboom/api"
	"logboom/timer"
)

// paper is the document's timers as plainly as they can be written: the walks hold the timers against it.
type paper struct{ lines []line }

type line struct{ key, at int }

func (p *paper) find(key int) int {
	return slices.IndexFunc(p.lines, func(l line) bool { return l.key == key })
}

func (p *paper) set(key, at int) api.Errno {
	i := p.find(key)
	switch {
	case at < 0 || at > 1000000000:
		return api.ErrArg
	case i >= 0:
		p.lines[i].at = at
	case len(p.lines) == 1000:
		return api.ErrMany
	default:
		p.lines = append(p.lines, line{key, at})
	}
	return api.OK
}

func (p *paper) cancel(key int) api.Errno {
	i := p.find(key)
	if i < 0 {
		return api.ErrNone
	}
	p.lines = slices.Delete(p.lines, i, i+1)
	return api.OK
}

func (p *paper) at(key int) int {
	if i := p.find(key); i >= 0 {
		return p.lines[i].at
	}
	return -1
}

func (p *paper) next() int {
	p.sort()
	if len(p.lines) == 0 {
		return -1
	}
	return p.lines[0].at
}

func (p *paper) due(now int) []int {
	p.sort()
	var keys []int
	for len(p.lines) > 0 && p.lines[0].at <= now {
		keys = append(keys, p.lines[0].key)
		p.lines = p.lines[1:]
	}
	return keys
}

func (p *paper) sort() {
	slices.SortFunc(p.lines, func(a, b line) int {
		if a.at < b.at || a.at == b.at && a.key < b.key {
			return -1
		}
		return 1
	})
}

// walker plays one call after the other on both, chosen by its numbers.
type walker struct {
	r    *rand.Rand
	keys []int
	span int // ticks are mostly below it
	x    *timer.Timers
	p    *paper
}

func (w *walker) key() int { return w.keys[w.r.Intn(len(w.keys))] }

func (w *walker) tick() int {
	if w.r.Intn(20) == 0 {
		edges := []int{math.MinInt, -1, 0, 1000000000, 1000000001, math.MaxInt}
		return edges[w.r.Intn(len(edges))]
	}
	return w.r.Intn(w.span)
}

// step plays one call; what it was, and if both answered alike.
func (w *walker) step(dues int) (string, bool) {
	key, tick := w.key(), w.tick()
	n := w.r.Intn(100)
	switch {
	case n < dues:
		return "Due " + strconv.Itoa(tick), slices.Equal(w.x.Due(tick), w.p.due(tick))
	case n < 30:
		return "Cancel " + strconv.Itoa(key), w.x.Cancel(key) == w.p.cancel(key)
	}
	return "Set " + strconv.Itoa(key) + " " + strconv.Itoa(tick), w.x.Set(key, tick) == w.p.set(key, tick)
}

func (w *walker) walk(t *testing.T, steps, dues int) {
	t.Helper()
	for i := range steps {
		what, alike := w.step(dues)
		key := w.key()
		if !alike || w.x.Len() != len(w.p.lines) || w.x.Next() != w.p.next() || w.x.At(key) != w.p.at(key) {
			t.Fatalf("step %d, %s: Len %d %d, Next %d %d, At(%d) %d %d", i, what, w.x.Len(), len(w.p.lines), w.x.Next(), w.p.next(), key, w.x.At(key), w.p.at(key))
		}
	}
	for _, key := range w.keys {
		wantAt(t, w.x, key, w.p.at(key))
	}
	wantDue(t, w.x, math.MaxInt, w.p.due(math.MaxInt)...)
}

func TestWalksOfFewTimers(t *testing.T) {
	for seed := range int64(300) {
		r := rand.New(rand.NewSource(seed))
		w := walker{r, keys[:1+r.Intn(len(keys))], 1 + r.Intn(30), timer.New(), &paper{}}
		w.walk(t, 300, 12)
	}
}

func TestWalksOfManyTimers(t *testing.T) {
	var some []int
	for i := range 1100 {
		some = append(some, i-550)
	}
	for seed := range int64(4) {
		x, p := made(t), &paper{}
		for i := range 1000 {
			set(t, x, [2]int{i - 500, i * 37 % 101})
			p.set(i-500, i*37%101)
		}
		w := walker{rand.New(rand.NewSource(seed)), some, 300, x, p}
		w.walk(t, 400, 0)
		w.walk(t, 400, 2)
	}
}

// T2.4

// told is what came of the timers of one walk: how often each was set, and told.
type told struct {
	sets, dues map[int]int
	at         map[int]int
}

func (d *told) wantDue(t *testing.T, key, now int) {
	t.Helper()
	d.dues[key]++
	at, ok := d.at[key]
	if !ok || d.dues[key] > d.sets[key] {
		t.Fatalf("Due(%d) told %d, which was told already, or not set", now, key)
	}
	if at > now {
		t.Fatalf("Due(%d) told %d, which is due at %d", now, key, at)
	}
	delete(d.at, key)
}

func TestEachIsToldOnceAndNotAheadOfItsTick(t *testing.T) {
	for seed := range int64(100) {
		r := rand.New(rand.NewSource(seed))
		x := made(t)
		d := told{map[int]int{}, map[int]int{}, map[int]int{}}
		for now := range 200 {
			for range r.Intn(4) {
				key, at := r.Intn(20), now+r.Intn(30)
				set(t, x, [2]int{key, at})
				d.sets[key]++
				d.at[key] = at
			}
			for _, key := range x.Due(now) {
				d.wantDue(t, key, now)
			}
			for key, at := range d.at {
				if at <= now {
					t.Fatalf("Due(%d) did not tell %d, which is due at %d", now, key, at)
				}
			}
		}
	}
}

func TestATimerIsToldAsOftenAsItWasSet(t *testing.T) {
	x := made(t)
	for now := range 100 {
		set(t, x, [2]int{1, now})
		wantDue(t, x, now, 1)
		wantDue(t, x, now)
	}
	set(t, x, [2]int{1, 100}, [2]int{1, 101}, [2]int{1, 100})
	wantDue(t, x, 200, 1)
	wantDue(t, x, 200)
}

func TestKeysComeInOrderThroughSeveralCalls(t *testing.T) {
	for seed := range int64(200) {
		r := rand.New(rand.NewSource(seed))
		x, y := made(t), made(t)
		for range 1 + r.Intn(60) {
			key, at := r.Intn(80)-40, r.Intn(40)
			set(t, x, [2]int{key, at})
			set(t, y, [2]int{key, at})
		}
		at := map[int]int{}
		for key := -40; key < 40; key++ {
			at[key] = x.At(key)
		}
		var parts []int
		for now := -1; now < 40; now += 1 + r.Intn(6) {
			parts = append(parts, x.Due(now)...)
		}
		parts = append(parts, x.Due(40)...)
		inOrder := slices.IsSortedFunc(parts, func(a, b int) int {
			if at[a] != at[b] {
				return at[a] - at[b]
			}
			return a - b
		})
		if !inOrder || x.Len() != 0 {
			t.Fatalf("seed %d: %v, %d left", seed, parts, x.Len())
		}
		wantDue(t, y, 40, parts...)
	}
}
