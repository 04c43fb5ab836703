package meta_test

import (
	"math"
	"slices"
	"strconv"
	"strings"
	"testing"

	"logboom/api"
	"logboom/meta"
)

func TestTheDocumentsExamples(t *testing.T) {
	m := cluster(t, 1, 2, 3)
	wantTold(t, m, topic("t", 2, 2, 1), 1)
	wantPart(t, m, 1, 1, 1, 1, 1, l(1, 2), l(1, 2))
	wantPart(t, m, 2, 2, 1, 1, 1, l(2, 3), l(2, 3))
	wantTold(t, m, fence(1, 1), 1)
	wantPart(t, m, 1, 2, 2, 2, 1, l(2), l(1, 2))
	wantErr(t, m, register(1, 1), api.ErrFenced)
	wantErr(t, m, unfence(1, 2), api.ErrFenced)
	wantErr(t, m, topic("t", 2, 2, 1), api.ErrTwice)
	wantTold(t, m, pid(0), 1)
	wantTold(t, m, pid(0), 2)
	wantTold(t, m, pid(1), 1)
	wantErr(t, m, pid(9), api.ErrNone)
}

func TestTheKindsOfRecords(t *testing.T) {
	got := [10]int{meta.Register, meta.Fence, meta.Unfence, meta.Topic, meta.Alter, meta.Move, meta.Stay, meta.Pid, meta.Prefer, meta.Done}
	if want := [10]int{1, 2, 3, 4, 5, 6, 7, 8, 9, 10}; got != want {
		t.Errorf("got %v", got)
	}
}

// A1: New, and what is of no kind

func TestNew(t *testing.T) {
	wantImage(t, "New", meta.New(), &paper{})
	// No records, brokers, topics, partitions, producers.
	if got := meta.New().Keep(); got[4:] != "\x00\x00\x00\x00\x00" {
		t.Errorf("Keep: %q", got)
	}
}

func TestAnImageThatNewDidNotMake(t *testing.T) {
	for _, r := range []api.Meta{fence(1, 1), unfence(1, 1), topic("t", 1, 1, 1), alter(1, 1, 1, 1, 1), move(1, 1), stay(1), done(1), prefer(1), pid(1), {}} {
		a, b := new(meta.Image), meta.New()
		wantErr(t, a, r, refusal(t, b, r))
		wantImage(t, "refused", a, &paper{applied: 1})
	}
	m := new(meta.Image)
	wantImage(t, "zero", m, &paper{})
	wantImage(t, "zero, copied", m.Clone(), &paper{})
	m = m.Clone()
	wantTold(t, m, register(3, 4), 3)
	wantTold(t, m, unfence(3, 4), 3)
	wantTold(t, m, topic("t", 1, 1, 1), 1)
	wantTold(t, m, pid(0), 1)
}

func refusal(t *testing.T, m *meta.Image, r api.Meta) api.Errno {
	t.Helper()
	_, e := m.Apply(r)
	if e == api.OK {
		t.Errorf("Apply(%+v) is taken", r)
	}
	return e
}

func TestARecordOfNoKind(t *testing.T) {
	m := cluster(t, 1, 2)
	wantTold(t, m, topic("t", 1, 2, 1), 1)
	for _, kind := range append(wild(), 0, 11, 12, 256+1, 1<<32+4) {
		wantErr(t, m, api.Meta{Kind: kind, A: 1, B: 1, C: 1, D: 1, Name: "u", List: l(1, 2)}, api.ErrArg)
	}
}

func TestAppliedCountsWhatIsRefused(t *testing.T) {
	m := meta.New()
	for i, r := range []api.Meta{{}, register(1, 1), register(1, 1), fence(1, 1), unfence(1, 1), fence(9, 1), topic("", 1, 1, 1), alter(1, 0, 0, 0), move(1), stay(1), done(1), prefer(1), pid(-1), pid(1), pid(0)} {
		m.Apply(r)
		if m.Applied() != i+1 {
			t.Errorf("Applied is %d behind %d records", m.Applied(), i+1)
		}
	}
}

// P6: ints go round.
func TestAppliedGoesRound(t *testing.T) {
	for _, r := range []api.Meta{register(1, 1), {}} {
		m := wantLoaded(t, &paper{applied: math.MaxInt})
		m.Apply(r)
		if m.Applied() != math.MinInt || m.Clone().Applied() != math.MinInt || m.Clone().Keep() != m.Keep() {
			t.Errorf("Applied is %d, of a copy %d", m.Applied(), m.Clone().Applied())
		}
	}
}

// A1: Register

func TestRegister(t *testing.T) {
	m := meta.New()
	for _, id := range l(5, 7, 1) {
		wantTold(t, m, register(id, id*10), id)
	}
	wantList(t, "Up of fenced brokers", m.Up(), nil)
	wantTold(t, m, register(7, 71), 7)
	wantTold(t, m, register(7, most), 7)
	wantTold(t, m, register(2, most), 2)
	wantTold(t, m, register(3, 1), 3)
	wantImage(t, "registered", m, &paper{applied: 7, seats: []seat{{1, 10, false}, {2, most, false}, {3, 1, false}, {5, 50, false}, {7, most, false}}})
}

func TestRegisterRefuses(t *testing.T) {
	m := meta.New()
	for _, id := range noIds() {
		wantErr(t, m, register(id, 1), api.ErrArg)
		wantErr(t, m, register(id, 0), api.ErrArg)
	}
	for _, life := range append(wild(), 0) {
		wantErr(t, m, register(1, life), api.ErrArg)
	}
	wantTold(t, m, register(1, 5), 1)
	wantTold(t, m, register(2, most), 2)
	for _, up := range []bool{false, true} {
		if up {
			wantTold(t, m, unfence(1, 5), 1)
		}
		for _, life := range l(1, 4, 5) {
			wantErr(t, m, register(1, life), api.ErrFenced)
		}
		// That a life may not be is told first.
		for _, life := range append(wild(), 0) {
			wantErr(t, m, register(1, life), api.ErrArg)
		}
		wantErr(t, m, register(2, most), api.ErrFenced)
	}
}

func TestRegisterFencesWhoIsUp(t *testing.T) {
	m := cluster(t, 1, 2, 3)
	wantTold(t, m, topic("t", 3, 3, 2), 1)
	wantTold(t, m, register(2, 2), 2)
	wantList(t, "Up", m.Up(), l(1, 3))
	wantPart(t, m, 1, 1, 1, 2, 2, l(1, 3), l(1, 2, 3))
	wantPart(t, m, 2, 3, 2, 2, 2, l(3, 1), l(2, 3, 1))
	wantPart(t, m, 3, 3, 1, 2, 2, l(3, 1), l(3, 1, 2))
	// It is fenced already: another life changes no partition.
	wantTold(t, m, register(2, 9), 2)
	wantPart(t, m, 2, 3, 2, 2, 2, l(3, 1), l(2, 3, 1))
	if life, ok := m.Life(2); life != 9 || !ok {
		t.Errorf("Life: %d, %v", life, ok)
	}
	wantErr(t, m, unfence(2, 2), api.ErrFenced)
	wantTold(t, m, unfence(2, 9), 2)
}

// The last one in sync stays so when it is fenced in its old life; who leads then is known when it is back.
func TestRegisterOfTheLastInSync(t *testing.T) {
	m := cluster(t, 1, 2)
	wantTold(t, m, topic("t", 1, 2, 1), 1)
	wantTold(t, m, fence(2, 1), 2)
	wantTold(t, m, register(1, 2), 1)
	wantPart(t, m, 1, 0, 2, 3, 1, l(1), l(1, 2))
	wantTold(t, m, unfence(2, 1), 2)
	wantPart(t, m, 1, 0, 2, 3, 1, l(1), l(1, 2))
	wantTold(t, m, unfence(1, 2), 1)
	wantPart(t, m, 1, 1, 3, 4, 1, l(1), l(1, 2))
}

// A1: Fence, Unfence

func TestFenceAndUnfence(t *testing.T) {
	m := cluster(t, 1, 2, 3)
	wantTold(t, m, topic("t", 4, 2, 2), 1)
	wantTold(t, m, fence(2, 1), 2)
	wantList(t, "Up", m.Up(), l(1, 3))
	wantPart(t, m, 1, 1, 1, 2, 2, l(1), l(1, 2))
	wantPart(t, m, 2, 3, 2, 2, 2, l(3), l(2, 3))
	wantPart(t, m, 3, 3, 1, 1, 2, l(3, 1), l(3, 1))
	wantPart(t, m, 4, 1, 1, 2, 2, l(1), l(1, 2))
	// The heir must be up: 1 is alone in 1 and 4; 3 has it of 3.
	wantTold(t, m, fence(1, 1), 1)
	wantPart(t, m, 1, 0, 2, 3, 2, l(1), l(1, 2))
	wantPart(t, m, 3, 3, 1, 2, 2, l(3), l(3, 1))
	wantPart(t, m, 4, 0, 2, 3, 2, l(1), l(1, 2))
	wantTold(t, m, unfence(2, 1), 2)
	wantPart(t, m, 1, 0, 2, 3, 2, l(1), l(1, 2))
	wantTold(t, m, unfence(1, 1), 1)
	wantPart(t, m, 1, 1, 3, 4, 2, l(1), l(1, 2))
	wantPart(t, m, 2, 3, 2, 2, 2, l(3), l(2, 3))
	wantPart(t, m, 3, 3, 1, 2, 2, l(3), l(3, 1))
	wantPart(t, m, 4, 1, 3, 4, 2, l(1), l(1, 2))
	wantList(t, "Up", m.Up(), l(1, 2, 3))
}

// Who is fenced is not up any more when the others give way; the heir is one of UP, though others are ahead in Replicas.
func TestFencingPassesOverWhoIsNotUp(t *testing.T) {
	p := &paper{
		seats: []seat{{1, 1, true}, {2, 1, false}, {3, 1, true}, {4, 1, true}},
		rows:  []row{{"t", 1, 2}},
		parts: []api.Part{part(1, 1, 5, 6, 1, l(1, 2, 3), l(1, 2, 3)), part(2, 4, 5, 6, 1, l(2, 4), l(2, 4, 1))},
	}
	m := wantLoaded(t, p)
	wantTold(t, m, fence(1, 1), 1)
	wantPart(t, m, 1, 3, 6, 7, 1, l(2, 3), l(1, 2, 3))
	wantTold(t, m, fence(4, 1), 4)
	wantPart(t, m, 2, 0, 6, 7, 1, l(2), l(2, 4, 1))
	wantTold(t, m, fence(3, 1), 3)
	wantPart(t, m, 1, 0, 7, 8, 1, l(2), l(1, 2, 3))
	wantTold(t, m, unfence(2, 1), 2)
	wantPart(t, m, 1, 2, 8, 9, 1, l(2), l(1, 2, 3))
	wantPart(t, m, 2, 2, 7, 8, 1, l(2), l(2, 4, 1))
}

func TestFenceAndUnfenceRefuse(t *testing.T) {
	for _, of := range []func(id, life int) api.Meta{fence, unfence} {
		m := meta.New()
		for _, id := range noIds() {
			wantErr(t, m, of(id, 1), api.ErrArg)
			wantErr(t, m, of(id, id), api.ErrArg)
		}
		for id := 1; id <= 7; id++ {
			wantErr(t, m, of(id, 1), api.ErrNone)
			wantErr(t, m, of(id, 0), api.ErrNone)
		}
		wantTold(t, m, register(4, 8), 4)
		for _, up := range []bool{false, true} {
			if up {
				wantTold(t, m, unfence(4, 8), 4)
			}
			for _, life := range append(wild(), 0, 1, 7, 9, most) {
				wantErr(t, m, of(4, life), api.ErrFenced)
			}
			wantErr(t, m, of(3, 8), api.ErrNone)
		}
	}
	m := meta.New()
	wantTold(t, m, register(4, 8), 4)
	wantErr(t, m, fence(4, 8), api.ErrState)
	wantTold(t, m, unfence(4, 8), 4)
	wantErr(t, m, unfence(4, 8), api.ErrState)
	wantTold(t, m, fence(4, 8), 4)
	wantErr(t, m, fence(4, 8), api.ErrState)
}

// full is on paper: 1 leads all, 2 follows; of the first partition no version is left, of the second no epoch, the third is as new.
func full() *paper {
	return &paper{
		seats: []seat{{1, 1, true}, {2, 1, true}, {3, 1, true}},
		rows:  []row{{"t", 1, 3}},
		parts: []api.Part{
			part(1, 1, 5, most, 1, l(1, 2), l(1, 2)),
			part(2, 1, most, 5, 1, l(1, 2), l(1, 2)),
			part(3, 1, 5, 5, 1, l(1, 2), l(1, 2)),
		},
	}
}

func TestFencingPassesOverErrOver(t *testing.T) {
	for _, r := range []api.Meta{fence(1, 1), register(1, 2)} {
		m := wantLoaded(t, full())
		wantTold(t, m, r, 1)
		wantList(t, "Up", m.Up(), l(2, 3))
		wantPart(t, m, 1, 1, 5, most, 1, l(1, 2), l(1, 2))
		wantPart(t, m, 2, 1, most, 5, 1, l(1, 2), l(1, 2))
		wantPart(t, m, 3, 2, 6, 6, 1, l(2), l(1, 2))
	}
	// A follower's fencing needs no epoch.
	m := wantLoaded(t, full())
	wantTold(t, m, fence(2, 1), 2)
	wantPart(t, m, 1, 1, 5, most, 1, l(1, 2), l(1, 2))
	wantPart(t, m, 2, 1, most, 6, 1, l(1), l(1, 2))
}

func TestUnfencePassesOverErrOver(t *testing.T) {
	p := full()
	p.seats[0].up = false
	for i := range p.parts {
		p.parts[i].Leader = 0
	}
	m := wantLoaded(t, p)
	wantTold(t, m, unfence(1, 1), 1)
	wantList(t, "Up", m.Up(), l(1, 2, 3))
	wantPart(t, m, 1, 0, 5, most, 1, l(1, 2), l(1, 2))
	wantPart(t, m, 2, 0, most, 5, 1, l(1, 2), l(1, 2))
	wantPart(t, m, 3, 1, 6, 6, 1, l(1, 2), l(1, 2))
}

// A1: Topic

func TestTopic(t *testing.T) {
	m := cluster(t, 6, 2, 4)
	wantTold(t, m, topic("zz", 5, 2, 2), 1)
	for i, list := range [][]int{l(2, 4), l(4, 6), l(6, 2), l(2, 4), l(4, 6)} {
		wantPart(t, m, i+1, list[0], 1, 1, 2, list, list)
	}
	wantTold(t, m, topic("a", 1, 3, 1), 6)
	wantPart(t, m, 6, 2, 1, 1, 1, l(2, 4, 6), l(2, 4, 6))
	// Only who is up has new ones; each topic begins with the first of them.
	wantTold(t, m, fence(2, 1), 2)
	wantTold(t, m, topic("m", 2, 2, 1), 7)
	wantPart(t, m, 7, 4, 1, 1, 1, l(4, 6), l(4, 6))
	wantPart(t, m, 8, 6, 1, 1, 1, l(6, 4), l(6, 4))
	if got := m.Topics(); !slices.Equal(got, []string{"a", "m", "zz"}) {
		t.Errorf("Topics: %q", got)
	}
	wantList(t, "zz", m.Find("zz"), l(1, 2, 3, 4, 5))
	wantList(t, "a", m.Find("a"), l(6))
	wantList(t, "m", m.Find("m"), l(7, 8))
}

func TestTopicOfAllPlaces(t *testing.T) {
	for brokers := 1; brokers <= 7; brokers++ {
		for replicas := 1; replicas <= min(brokers, 5); replicas++ {
			m := cluster(t, l(1, 2, 3, 4, 5, 6, 7)[:brokers]...)
			wantTold(t, m, topic("t", 16, replicas, replicas), 1)
			for k := range 16 {
				var list []int
				for i := range replicas {
					list = append(list, (k+i)%brokers+1)
				}
				wantPart(t, m, k+1, list[0], 1, 1, replicas, list, list)
			}
		}
	}
}

func TestTopicRefuses(t *testing.T) {
	m := cluster(t, 1, 2, 3, 4, 5, 6, 7)
	for _, n := range append(wild(), 0, 17, 18) {
		wantErr(t, m, topic("t", n, 1, 1), api.ErrArg)
	}
	for _, n := range append(wild(), 0, 6, 7) {
		wantErr(t, m, topic("t", 1, n, 1), api.ErrArg)
		wantErr(t, m, topic("t", 1, 5, n), api.ErrArg)
	}
	for replicas := 1; replicas <= 5; replicas++ {
		wantErr(t, m, topic("t", 1, replicas, replicas+1), api.ErrArg)
		wantErr(t, m, topic("t", 1, replicas, 0), api.ErrArg)
	}
	if len(m.Topics()) != 0 {
		t.Errorf("Topics: %q", m.Topics())
	}
}

func TestTopicsNames(t *testing.T) {
	m := cluster(t, 1)
	for c := range 256 {
		s := string([]byte{byte(c)})
		right := strings.Contains("abcdefghijklmnopqrstuvwxyz0123456789-", s)
		for _, name := range []string{s, "a" + s, s + "b", "a" + s + "b"} {
			if n, e := m.Clone().Apply(topic(name, 1, 1, 1)); right != (e == api.OK && n == 1) {
				t.Errorf("%q: %d, %d", name, n, int(e))
			}
			if !right {
				wantErr(t, m, topic(name, 1, 1, 1), api.ErrArg)
			}
		}
	}
	for _, name := range []string{"", strings.Repeat("a", 33), strings.Repeat("a", 1<<20), "é", "a b", "Topic", "a_b", "a.b"} {
		wantErr(t, m, topic(name, 1, 1, 1), api.ErrArg)
	}
	for i, name := range []string{"-", "0", strings.Repeat("z", 32), strings.Repeat("-", 31)} {
		wantTold(t, m, topic(name, 1, 1, 1), i+1)
	}
}

func TestTopicTwiceAndTooMany(t *testing.T) {
	m := cluster(t, 1, 2)
	wantTold(t, m, topic("t", 10, 2, 1), 1)
	wantErr(t, m, topic("t", 1, 1, 1), api.ErrTwice)
	wantErr(t, m, topic("u", 7, 1, 1), api.ErrMany)
	wantErr(t, m, topic("u", 1, 3, 1), api.ErrMany)
	wantErr(t, m, topic("u", 16, 5, 5), api.ErrMany)
	// What is named first is told.
	wantErr(t, m, topic("t", 16, 5, 5), api.ErrTwice)
	wantErr(t, m, topic("t", 17, 1, 1), api.ErrArg)
	wantErr(t, m, topic("t", 1, 6, 1), api.ErrArg)
	wantErr(t, m, topic("t", 1, 1, 2), api.ErrArg)
	wantErr(t, m, topic("u", 7, 2, 3), api.ErrArg)
	wantErr(t, m, topic("T", 7, 2, 1), api.ErrArg)
	wantTold(t, m, topic("u", 6, 2, 1), 11)
	wantErr(t, m, topic("v", 1, 1, 1), api.ErrMany)
	wantTold(t, m, fence(1, 1), 1)
	n := cluster(t, 1, 2)
	wantTold(t, n, fence(1, 1), 1)
	wantErr(t, n, topic("t", 1, 2, 1), api.ErrMany)
	wantTold(t, n, topic("t", 1, 1, 1), 1)
	wantErr(t, meta.New(), topic("t", 1, 1, 1), api.ErrMany)
}

func TestSixteenTopics(t *testing.T) {
	m := cluster(t, 1)
	for i := range 16 {
		wantTold(t, m, topic("t"+strconv.Itoa(i), 1, 1, 1), i+1)
	}
	wantErr(t, m, topic("t", 1, 1, 1), api.ErrMany)
	if got := m.Topics(); !slices.IsSorted(got) || len(got) != 16 || got[2] != "t10" {
		t.Errorf("Topics: %q", got)
	}
	if n, e := meta.Load(m.Keep()); e != api.OK || n.Keep() != m.Keep() {
		t.Errorf("Load: %d", int(e))
	}
}

// A1: Alter

func TestAlter(t *testing.T) {
	m := cluster(t, 1, 2, 3)
	wantTold(t, m, topic("t", 2, 3, 2), 1)
	wantTold(t, m, alter(2, 2, 1, 1, 1, 2), 2)
	wantPart(t, m, 2, 2, 1, 2, 2, l(2, 1), l(2, 3, 1))
	wantPart(t, m, 1, 1, 1, 1, 2, l(1, 2, 3), l(1, 2, 3))
	wantTold(t, m, alter(2, 2, 1, 2, 3, 1, 2), 3)
	wantPart(t, m, 2, 2, 1, 3, 2, l(2, 3, 1), l(2, 3, 1))
	wantErr(t, m, alter(2, 2, 1, 2, 2), api.ErrFenced)
	wantErr(t, m, alter(2, 2, 0, 3, 2), api.ErrFenced)
	wantErr(t, m, alter(2, 2, 1, 4, 2), api.ErrNewer)
	wantErr(t, m, alter(2, 2, 2, 3, 2), api.ErrNewer)
	wantErr(t, m, alter(2, 1, 1, 3, 2), api.ErrState)
	wantErr(t, m, alter(2, 0, 1, 3, 2), api.ErrState)
	for _, isr := range [][]int{nil, l(1, 3), l(2, 2), l(2, 4), l(2, 0), l(2, 8)} {
		wantErr(t, m, alter(2, 2, 1, 3, isr...), api.ErrArg)
	}
}

// Who comes in must be up; who is in already need not be.
func TestAlterAndWhoIsUp(t *testing.T) {
	p := &paper{
		seats: []seat{{1, 1, true}, {2, 1, false}, {3, 1, false}, {4, 1, true}},
		rows:  []row{{"t", 1, 1}},
		parts: []api.Part{part(1, 1, 5, 6, 1, l(1, 2), l(1, 2, 3, 4, 5))},
	}
	m := wantLoaded(t, p)
	wantErr(t, m, alter(1, 1, 5, 6, 1, 3), api.ErrArg)
	wantErr(t, m, alter(1, 1, 5, 6, 1, 5), api.ErrArg)
	wantTold(t, m, alter(1, 1, 5, 6, 4, 2, 1), 7)
	wantPart(t, m, 1, 1, 5, 7, 1, l(1, 2, 4), l(1, 2, 3, 4, 5))
}

func TestRecordsOfAPartitionThatIsNot(t *testing.T) {
	m := cluster(t, 1, 2, 3)
	for _, parts := range l(0, 2, 14) {
		if parts > 0 {
			wantTold(t, m, topic("t"+strconv.Itoa(parts), parts, 2, 1), len(m.Parts())+1)
		}
		for _, id := range append(wild(), 0, len(m.Parts())+1, 17, 18) {
			for _, r := range []api.Meta{alter(id, 1, 1, 1, 1), alter(id, 0, 0, 0), move(id, 2, 3), move(id), stay(id), done(id), prefer(id)} {
				wantErr(t, m, r, api.ErrNone)
			}
		}
	}
}

// A1: Move, Stay, Done, Prefer

func TestMoveAndDone(t *testing.T) {
	m := cluster(t, 1, 2, 3, 4)
	wantTold(t, m, topic("t", 2, 2, 1), 1)
	wantErr(t, m, done(1), api.ErrState)
	wantErr(t, m, stay(1), api.ErrState)
	for _, list := range [][]int{nil, l(1, 1), l(0), l(8), l(1, 2, 3, 4, 5, 6)} {
		wantErr(t, m, move(1, list...), api.ErrArg)
	}
	wantErr(t, m, move(1, 2, 5), api.ErrNone)
	wantTold(t, m, move(1, 3, 4), 2)
	wantPart(t, m, 1, 1, 1, 2, 1, l(1, 2), l(3, 4, 1, 2), l(3, 4), l(1, 2))
	wantErr(t, m, move(1, 3, 4), api.ErrState)
	wantErr(t, m, done(1), api.ErrState)
	wantTold(t, m, alter(1, 1, 1, 2, 1, 2, 3), 3)
	wantErr(t, m, done(1), api.ErrState)
	wantTold(t, m, alter(1, 1, 1, 3, 1, 2, 3, 4), 4)
	// The leader gives way to a target that is up.
	wantTold(t, m, done(1), 5)
	wantPart(t, m, 1, 3, 2, 5, 1, l(3, 4), l(3, 4))
	wantPart(t, m, 2, 2, 1, 1, 1, l(2, 3), l(2, 3))
}

// The calls of chapter 11 are asked with UP: who is fenced is no target, and no heir.
func TestMovesAndWhoIsUp(t *testing.T) {
	p := &paper{
		seats: []seat{{1, 1, true}, {2, 1, true}, {3, 1, false}, {4, 1, true}},
		rows:  []row{{"t", 1, 3}},
		parts: []api.Part{
			part(1, 1, 5, 6, 1, l(3, 4, 1), l(3, 4, 1), l(3, 4), l(1)),
			part(2, 4, 5, 6, 1, l(3, 1, 4), l(4, 3, 1), l(4)),
			part(3, 1, 5, 6, 1, l(1), l(1, 2)),
		},
	}
	m := wantLoaded(t, p)
	wantTold(t, m, done(1), 7)
	wantPart(t, m, 1, 4, 6, 7, 1, l(3, 4), l(3, 4))
	wantTold(t, m, stay(2), 7)
	wantPart(t, m, 2, 1, 6, 7, 1, l(3, 1), l(3, 1))
	wantErr(t, m, move(3, 1, 3), api.ErrNone)
	wantErr(t, m, move(3, 1, 7), api.ErrNone)
	wantTold(t, m, move(3, 1, 4), 7)
}

func TestStay(t *testing.T) {
	m := cluster(t, 1, 2, 3, 4)
	wantTold(t, m, topic("t", 1, 2, 1), 1)
	wantTold(t, m, move(1, 3, 1), 2)
	wantTold(t, m, alter(1, 1, 1, 2, 3, 1), 3)
	wantTold(t, m, prefer(1), 4)
	wantPart(t, m, 1, 3, 2, 4, 1, l(3, 1), l(3, 1, 2), l(3), l(2))
	wantTold(t, m, stay(1), 5)
	wantPart(t, m, 1, 1, 3, 5, 1, l(1), l(1, 2))
	wantErr(t, m, stay(1), api.ErrState)
	wantTold(t, m, move(1, 4), 6)
	wantTold(t, m, alter(1, 1, 3, 6, 1, 4), 7)
	wantTold(t, m, fence(1, 1), 1)
	// All that are in sync are new: none of them may be dropped.
	wantErr(t, m, stay(1), api.ErrState)
	wantTold(t, m, done(1), 9)
	wantPart(t, m, 1, 4, 4, 9, 1, l(4), l(4))
}

// p itself is told with the Version that it has.
func TestRecordsThatChangeNothing(t *testing.T) {
	m := cluster(t, 1, 2)
	wantTold(t, m, topic("t", 1, 2, 1), 1)
	wantTold(t, m, alter(1, 1, 1, 1, 1, 2), 2)
	was := behindApplied(m)
	wantTold(t, m, move(1, 1, 2), 2)
	wantTold(t, m, prefer(1), 2)
	if behindApplied(m) != was {
		t.Error("something is changed")
	}
	wantTold(t, m, move(1, 2, 1), 3)
	wantPart(t, m, 1, 1, 1, 3, 1, l(1, 2), l(2, 1))
	wantTold(t, m, prefer(1), 4)
	wantPart(t, m, 1, 2, 2, 4, 1, l(1, 2), l(2, 1))
}

func TestPrefer(t *testing.T) {
	m := cluster(t, 1, 2, 3)
	wantTold(t, m, topic("t", 1, 3, 1), 1)
	wantTold(t, m, fence(1, 1), 1)
	wantErr(t, m, prefer(1), api.ErrState)
	wantTold(t, m, unfence(1, 1), 1)
	wantErr(t, m, prefer(1), api.ErrState) // up, but not in sync
	wantTold(t, m, alter(1, 2, 2, 2, 1, 2, 3), 3)
	wantTold(t, m, prefer(1), 4)
	wantPart(t, m, 1, 1, 3, 4, 1, l(1, 2, 3), l(1, 2, 3))
}

// One that is not up is refused first of all: also if it leads already (as no epoch was left to take it away), is in sync, or no epoch is left.
func TestPreferOfOneThatIsNotUp(t *testing.T) {
	m := wantLoaded(t, full())
	wantTold(t, m, fence(1, 1), 1)
	wantErr(t, m, prefer(1), api.ErrState)
	wantErr(t, m, prefer(2), api.ErrState)
	p := full()
	p.seats[0].up = false
	for i := range p.parts {
		p.parts[i].Leader = 2
	}
	m = wantLoaded(t, p)
	for id := range 3 {
		wantErr(t, m, prefer(id+1), api.ErrState)
	}
	// There is no such broker at all.
	p.seats = p.seats[1:]
	m = wantLoaded(t, p)
	for id := range 3 {
		wantErr(t, m, prefer(id+1), api.ErrState)
	}
}

func TestErrOverOfOnePartition(t *testing.T) {
	m := wantLoaded(t, full())
	wantErr(t, m, alter(1, 1, 5, most, 1, 2), api.ErrOver)
	wantTold(t, m, alter(2, 1, most, 5, 1, 2), 6)
	wantErr(t, m, move(1, 3), api.ErrOver)
	wantTold(t, m, move(1, 1, 2), most)
	wantTold(t, m, prefer(1), most)
	p := full()
	for i := range p.parts {
		p.parts[i].Leader = 2
	}
	m = wantLoaded(t, p)
	wantErr(t, m, prefer(1), api.ErrOver)
	wantErr(t, m, prefer(2), api.ErrOver)
	wantTold(t, m, prefer(3), 6)
	for i := range p.parts {
		p.parts[i].Replicas, p.parts[i].Adding, p.parts[i].Removing = l(1, 2), l(1), l(2)
	}
	m = wantLoaded(t, p)
	for _, id := range l(1, 2) {
		wantErr(t, m, done(id), api.ErrOver)
	}
	wantTold(t, m, done(3), 6)
	for i := range p.parts {
		p.parts[i].Leader = 1
	}
	m = wantLoaded(t, p)
	for _, id := range l(1, 2) {
		wantErr(t, m, stay(id), api.ErrOver)
	}
	wantTold(t, m, stay(3), 6)
}

// A1: Pid

func TestPid(t *testing.T) {
	m := meta.New()
	for _, n := range append(wild(), 0) {
		if n < 0 {
			wantErr(t, m, pid(n), api.ErrArg)
		} else if n > 0 {
			wantErr(t, m, pid(n), api.ErrNone)
		}
	}
	wantErr(t, m, pid(1), api.ErrNone)
	for i := range 1000 {
		wantTold(t, m, pid(0), i+1)
	}
	wantErr(t, m, pid(0), api.ErrMany)
	wantErr(t, m, pid(1001), api.ErrNone)
	wantErr(t, m, pid(-1), api.ErrArg)
	wantTold(t, m, pid(1000), 1)
	wantTold(t, m, pid(1000), 2)
	wantTold(t, m, pid(1), 1)
	wantTold(t, m, pid(2), 1)
	want := make([]int, 1000)
	want[0], want[1], want[999] = 1, 1, 2
	wantImage(t, "a thousand", m, &paper{applied: m.Applied(), epochs: want})
}

func TestPidOver(t *testing.T) {
	m := wantLoaded(t, &paper{epochs: l(most-1, most, 0)})
	wantTold(t, m, pid(1), most)
	wantErr(t, m, pid(1), api.ErrOver)
	wantErr(t, m, pid(2), api.ErrOver)
	wantTold(t, m, pid(3), 1)
	wantTold(t, m, pid(0), 4)
}

// A1: a record's other fields do not matter.
func TestFieldsThatAreNotTheKinds(t *testing.T) {
	for _, c := range []struct {
		r    api.Meta
		uses string
	}{
		{register(4, 2), "AB"}, {fence(1, 1), "AB"}, {unfence(3, 1), "AB"}, {topic("u", 2, 2, 1), "ABCN"},
		{alter(1, 1, 1, 1, 1), "ABCDL"}, {move(1, 4, 1), "AL"}, {stay(2), "A"}, {done(2), "A"}, {prefer(1), "A"}, {pid(0), "A"}, {pid(1), "A"},
	} {
		m := cluster(t, 1, 2, 4)
		wantTold(t, m, register(3, 1), 3)
		wantTold(t, m, topic("t", 2, 2, 1), 1)
		wantTold(t, m, move(2, 2), 2)
		wantTold(t, m, pid(0), 1)
		r := c.r
		for _, f := range []struct {
			name string
			of   *int
		}{{"B", &r.B}, {"C", &r.C}, {"D", &r.D}} {
			if !strings.Contains(c.uses, f.name) {
				*f.of = math.MinInt
			}
		}
		if !strings.Contains(c.uses, "N") {
			r.Name = "T\x00"
		}
		if !strings.Contains(c.uses, "L") {
			r.List = slices.Repeat(l(-1, 9), 1000)
		}
		r.Text = strings.Repeat("x", 2000)
		n := m.Clone()
		a, e := m.Apply(c.r)
		b, f := n.Apply(r)
		if a != b || e != f || e != api.OK || m.Keep() != n.Keep() {
			t.Errorf("%+v: %d, %d; with other fields %d, %d", c.r, a, int(e), b, int(f))
		}
	}
}

// P1: any numbers, lists of any length.
func TestAnyRecord(t *testing.T) {
	some := append(wild(), 0, 1, 2, 7, 8, 16, 17)
	long := slices.Repeat(l(1, 2, 9), 100000)
	for kind := range 12 {
		m, p := cluster(t, 1, 2), &paper{}
		for _, r := range []api.Meta{register(1, 1), unfence(1, 1), register(2, 1), unfence(2, 1), topic("t", 2, 2, 1)} {
			p.apply(r)
		}
		m.Apply(topic("t", 2, 2, 1))
		for _, a := range some {
			for _, b := range some {
				for i, list := range [][]int{nil, long, l(math.MinInt, math.MaxInt)} {
					r := api.Meta{Kind: kind, A: a, B: b, C: some[(i+len(p.epochs))%len(some)], D: b, Name: strings.Repeat("b", i), List: list}
					n, e := m.Apply(r)
					if k, f := p.apply(r); n != k || e != f {
						t.Fatalf("Apply(%d %d %d): %d, %d, want %d, %d", kind, a, b, n, int(e), k, int(f))
					}
				}
			}
		}
		wantImage(t, "any", m, p)
	}
}

// A2

func TestWhatIsNotThere(t *testing.T) {
	m := cluster(t, 1, 2)
	wantTold(t, m, register(7, 3), 7)
	wantTold(t, m, topic("t", 2, 1, 1), 1)
	for _, id := range append(wild(), 0, 3, 16, 17) {
		if p, ok := m.Part(id); ok || p.Id != 0 || p.Isr != nil || p.Replicas != nil || p.Epoch != 0 {
			t.Errorf("Part(%d): %+v, %v", id, p, ok)
		}
	}
	for _, id := range append(noIds(), 3, 6) {
		if life, ok := m.Life(id); ok || life != 0 {
			t.Errorf("Life(%d): %d, %v", id, life, ok)
		}
	}
	// A fenced one has its life as well.
	if life, ok := m.Life(7); !ok || life != 3 {
		t.Errorf("Life(7): %d, %v", life, ok)
	}
	for _, name := range []string{"", "T", "tt", "t\x00", "u", strings.Repeat("t", 1<<20)} {
		if got := m.Find(name); len(got) != 0 {
			t.Errorf("Find(%.40q): %v", name, got)
		}
	}
}

func TestUpRises(t *testing.T) {
	m := meta.New()
	for _, id := range l(7, 3, 5, 1, 6, 2, 4) {
		wantTold(t, m, register(id, 1), id)
	}
	var want []int
	for _, id := range l(4, 7, 1, 6, 2, 5, 3) {
		wantTold(t, m, unfence(id, 1), id)
		want = append(want, id)
		slices.Sort(want)
		wantList(t, "Up", m.Up(), want)
	}
	wantTold(t, m, fence(4, 1), 4)
	wantList(t, "Up", m.Up(), l(1, 2, 3, 5, 6, 7))
}

// spoil writes into a list, and behind its length.
func spoil(list []int) {
	list = list[:cap(list)]
	for i := range list {
		list[i] = 6
	}
}

func TestWhatIsToldIsACopy(t *testing.T) {
	m := cluster(t, 1, 2, 3)
	wantTold(t, m, topic("t", 3, 3, 1), 1)
	wantTold(t, m, topic("s", 1, 2, 1), 4)
	wantTold(t, m, move(2, 3), 2)
	kept, was := m.Keep(), told(m)
	for range 2 {
		p, _ := m.Part(2)
		for i := range 4 {
			spoil(*listOf(&p, i))
		}
		all := m.Parts()
		for i := range all {
			for k := range 4 {
				spoil(*listOf(&all[i], k))
			}
			all[i] = api.Part{}
		}
		spoil(m.Up())
		spoil(m.Find("t"))
		names := m.Topics()
		names[0], names[1] = "x", "y"
		if m.Keep() != kept || told(m) != was {
			t.Fatal("what was told is part of the image")
		}
	}
}

// No two lists of one answer share anything.
func TestListsOfAnAnswerShareNothing(t *testing.T) {
	m := cluster(t, 1, 2, 3)
	wantTold(t, m, topic("t", 3, 2, 1), 1)
	all := m.Parts()
	spoil(all[0].Isr)
	wantList(t, "Replicas", all[0].Replicas, l(1, 2))
	spoil(all[2].Replicas)
	wantList(t, "Isr", all[2].Isr, l(3, 1))
	wantList(t, "another's", all[1].Isr, l(2, 3))
}

func TestListsThatAreHandedInAreNotKept(t *testing.T) {
	m := cluster(t, 1, 2, 3, 4)
	wantTold(t, m, topic("t", 1, 2, 1), 1)
	for _, r := range []api.Meta{move(1, 3, 4), alter(1, 1, 1, 2, 1, 2, 3, 4)} {
		// What lies behind the list's length is neither read nor written.
		room := append(slices.Clone(r.List), 9, 9, 9, 9)
		r.List = room[:len(r.List)]
		wantTold(t, m, r, m.Parts()[0].Version+1)
		wantList(t, "behind", room[len(r.List):], l(9, 9, 9, 9))
		kept := m.Keep()
		spoil(room)
		if m.Keep() != kept {
			t.Error("a list is kept")
		}
	}
	wantTold(t, m, done(1), 4)
	wantPart(t, m, 1, 3, 2, 4, 1, l(3, 4), l(3, 4))
}
