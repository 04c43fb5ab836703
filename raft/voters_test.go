package raft_test

import (
	"fmt"
	"hash/crc32"
	"math/rand"
	"strconv"
	"strings"
	"testing"

	"logboom/api"
	"logboom/disk"
	"logboom/raft"
	"logboom/raftlog"
)

// voter is a node that goes by the document, with a machine that it applies to what it takes: how far it is, and a sum of all.
type voter struct {
	id    int
	disk  *disk.Disk
	log   *raftlog.Log
	node  *raft.Node // nil: it is down
	index int
	sum   string
	high  int // COMMIT as it was seen last, in this life
}

// taken is what was taken at an index, the sum of all up to it, and the least term of a voter when it took it.
type taken struct {
	entry api.Entry
	sum   string
	term  int
}

// world is some voters, the messages between them, and what was ever seen.
type world struct {
	t       *testing.T
	c       chance
	now     int
	wait    int
	ids     []int
	voters  []*voter
	net     []api.Msg
	leaders map[int]int
	taken   map[int]taken
	told    map[string]int
	said    int
	wild    bool // there are more elections, and fewer messages come
	alone   int  // the voter that hears of none, nor they of it; 0: none
}

func newWorld(t *testing.T, c chance, told map[string]int) *world {
	w := &world{t: t, c: c, wait: []int{2, 4, 10, 20}[c.Intn(4)], leaders: map[int]int{}, taken: map[int]taken{}, told: told}
	for id := 1; id <= []int{1, 2, 3, 3, 4, 5, 5, 5}[c.Intn(8)]; id++ {
		w.ids = append(w.ids, id)
	}
	size := []int{100000, 100000, 1500}[c.Intn(3)]
	for _, id := range w.ids {
		v := &voter{id: id, disk: made(t, size)}
		w.voters = append(w.voters, v)
		w.begin(v)
	}
	return w
}

func (w *world) begin(v *voter) {
	v.log = opened(w.t, v.disk)
	n, e := raft.New(v.id, w.ids, v.log, w.wait)
	must(w.t, e)
	v.node, v.index, v.sum, v.high = n, 0, "", n.Commit()
}

func (w *world) crash(v *voter) {
	v.disk.Crash([]int{w.c.Intn(50), w.c.Intn(50)})
	v.node = nil
}

// any is one of the voters that are up; nil: the one that was chosen is not.
func (w *world) any() *voter {
	v := w.voters[w.c.Intn(len(w.voters))]
	if v.node == nil {
		return nil
	}
	return v
}

// deliver has a message step its voter, if that is up.
func (w *world) deliver(at int, keep bool) {
	m := w.net[at]
	if !keep {
		w.net = append(w.net[:at], w.net[at+1:]...)
	}
	if w.alone != 0 && (m.From == w.alone || m.To == w.alone) {
		return
	}
	if v := w.voters[m.To-1]; v.node != nil {
		w.told["kind "+strconv.Itoa(m.Kind)]++
		w.net = append(w.net, v.node.Step(w.now, m)...)
	}
}

// apply takes what a voter has to take, and holds it against what others took.
func (w *world) apply(v *voter) {
	list, snap := v.node.Take()
	for i, x := range list {
		if i == 0 && snap {
			w.told["snapshots"]++
			v.index, v.sum = x.Index, x.Data
			if was, ok := w.taken[x.Index]; !ok || was.sum != x.Data || was.entry.Term != x.Term {
				w.t.Fatalf("%d took the snapshot %v, others %v", v.id, x, was)
			}
			continue
		}
		if x.Index != v.index+1 {
			w.t.Fatalf("%d took %d behind %d", v.id, x.Index, v.index)
		}
		v.index, v.sum = x.Index, sumOf(v.sum, x)
		was, ok := w.taken[x.Index]
		if ok && (was.entry != x || was.sum != v.sum) {
			w.t.Fatalf("%d took %v, others %v", v.id, x, was)
		}
		if !ok || v.node.Term() < was.term {
			w.taken[x.Index] = taken{x, v.sum, v.node.Term()}
		}
		w.told["taken"]++
	}
	if v.index != v.node.Commit() {
		w.t.Fatalf("%d has taken up to %d, COMMIT is %d", v.id, v.index, v.node.Commit())
	}
}

func sumOf(sum string, x api.Entry) string {
	return strconv.Itoa(int(crc32.ChecksumIEEE([]byte(fmt.Sprint(sum, x)))))
}

// look asks for what must hold at any time.
func (w *world) look(what string) {
	for _, v := range w.voters {
		if v.node == nil {
			continue
		}
		if v.node.Commit() < v.high {
			w.t.Fatalf("%s: COMMIT of %d went from %d down to %d", what, v.id, v.high, v.node.Commit())
		}
		v.high = v.node.Commit()
		if !v.node.Leads() {
			continue
		}
		term := v.node.Term()
		if other := w.leaders[term]; other != 0 && other != v.id {
			w.t.Fatalf("%s: %d and %d lead in the term %d", what, other, v.id, term)
		}
		if w.leaders[term] == 0 {
			w.told["leaders"]++
		}
		w.leaders[term] = v.id
		w.wantAll(what, v)
	}
}

// wantAll asks that a leader's log has all that was taken by voters of its term, or of an earlier one.
func (w *world) wantAll(what string, v *voter) {
	snap, _, data := v.log.Snapshot()
	for index, x := range w.taken {
		if x.term > v.node.Term() || index < snap {
			continue
		}
		if index == snap {
			if x.sum != data {
				w.t.Fatalf("%s: the leader %d has a snapshot of %d that is another one", what, v.id, index)
			}
			continue
		}
		if got, ok := v.log.At(index); !ok || got != x.entry {
			w.t.Fatalf("%s: the leader %d has %v, %v at %d, taken was %v", what, v.id, got, ok, index, x.entry)
		}
	}
}

// event does one thing that may happen.
func (w *world) event(rough int) string {
	c := w.c
	v := w.any()
	switch k := c.Intn(100); {
	case k < 45 && len(w.net) > 0:
		w.deliver(c.Intn(len(w.net)), false)
		return "deliver"
	case k < 55 && len(w.net) > 0:
		w.deliver(0, false)
		return "deliver the first"
	case k < 60 && len(w.net) > 0 && rough > 0:
		w.deliver(c.Intn(len(w.net)), true)
		return "double"
	case k < 60+rough && len(w.net) > 0:
		at := c.Intn(len(w.net))
		w.net = append(w.net[:at], w.net[at+1:]...)
		return "lose"
	case k < 63 && v != nil && w.wild:
		// Time leaps for one voter alone, so that it stands, or sends.
		w.now += w.wait
		c.Shuffle(len(w.net), func(i, j int) { w.net[i], w.net[j] = w.net[j], w.net[i] })
		w.net = append(w.net[:len(w.net)/2], v.node.Tick(w.now+w.wait, c.Intn(1000))...)
		return "leap"
	case k < 72 && !w.wild:
		w.now++
		for _, v := range w.voters {
			if v.node != nil {
				w.net = append(w.net, v.node.Tick(w.now, c.Intn(1000))...)
			}
		}
		return "tick"
	case k < 80 && v != nil:
		many := 1
		if c.Intn(20) == 0 || w.wild && c.Intn(4) == 0 {
			many = 20
		}
		for range many {
			w.said++
			if _, list, e := v.node.Propose(w.now, "entry "+strconv.Itoa(w.said)); e == api.OK {
				w.net = append(w.net, list...)
			}
		}
		return "propose"
	case k < 88 && v != nil:
		w.apply(v)
		return "take"
	case k < 91 && v != nil && !w.wild:
		w.apply(v)
		if w.told["compact "+strconv.Itoa(int(v.node.Compact(v.index, v.sum)))]++; v.index == 0 {
			return "compact nothing"
		}
		return "compact"
	case k < 93 && v != nil && rough > 0 && c.Intn(3) == 0:
		w.crash(v)
		return "crash"
	case k < 97:
		v := w.voters[c.Intn(len(w.voters))]
		if v.node == nil {
			w.begin(v)
		}
		return "begin"
	case k < 98 && rough > 0:
		w.alone = c.Intn(len(w.voters) + 1)
		return "part"
	case k < 99 && v != nil && rough > 0:
		// A disk that is full for a while refuses terms, votes and entries.
		v.disk.Replace("stuff", strings.Repeat("s", c.Intn(v.disk.Free()+v.disk.Size("stuff")+1)))
		return "stuff"
	}
	if many := len(w.net); many > 200 || w.wild && many > 20 {
		w.net = w.net[many/2:]
	}
	return "nothing"
}

// calm has all voters be up, and all messages come, in order, for so many ticks.
func (w *world) calm(ticks int) {
	w.alone = 0
	for _, v := range w.voters {
		v.disk.Remove("stuff")
		if v.node == nil {
			w.begin(v)
		}
	}
	for range ticks {
		w.now++
		for _, v := range w.voters {
			w.net = append(w.net, v.node.Tick(w.now, w.c.Intn(1000))...)
		}
		for steps := 0; len(w.net) > 0; steps++ {
			if steps == 10000 {
				w.t.Fatalf("messages without an end: %+v", w.net[0])
			}
			w.deliver(0, false)
		}
		w.look("calm")
	}
}

// R6: whatever is lost, doubled, late, and whoever crashes.
func TestVotersAgree(t *testing.T) {
	told := map[string]int{}
	for seed := range 400 {
		w := newWorld(t, chance{rand.New(rand.NewSource(int64(seed)))}, told)
		rough := w.c.Intn(8)
		w.wild = seed%2 == 0
		for i := range 1500 {
			what := w.event(rough)
			told[what]++
			w.look(fmt.Sprintf("seed %d, event %d, %s", seed, i, what))
		}
		w.calm(150)
		w.wantOne(seed)
	}
	for _, what := range []string{
		"deliver", "deliver the first", "double", "lose", "tick", "propose", "take", "compact", "crash", "begin", "leap", "part", "stuff", "compact 0", "snapshots", "taken", "leaders",
		"kind 1", "kind 2", "kind 3", "kind 4", "kind 5", "kind 6",
	} {
		if told[what] < 100 {
			t.Errorf("%s: %d times", what, told[what])
		}
	}
}

// wantOne asks that all voters follow one, and take the same when it is calm. (On a small disk there may be no room for an entry more.)
func (w *world) wantOne(seed int) {
	if w.voters[0].disk.Size("r.log")+w.voters[0].disk.Free() < 50000 {
		return
	}
	first := w.voters[0].node
	for _, v := range w.voters {
		w.apply(v)
		if v.node.Leader() == 0 || v.node.Leader() != first.Leader() || v.node.Commit() != first.Commit() || v.sum != w.voters[0].sum {
			w.t.Fatalf("seed %d: %d follows %d, COMMIT %d; 1 follows %d, COMMIT %d", seed, v.id, v.node.Leader(), v.node.Commit(), first.Leader(), first.Commit())
		}
		if index, _ := v.log.Last(); index != v.node.Commit() {
			w.t.Fatalf("seed %d: %d has %d entries, %d are committed", seed, v.id, index, v.node.Commit())
		}
	}
}
