package meta_test

import (
	"math"
	"slices"
	"strconv"
	"strings"
	"testing"

	"logboom/api"
	"logboom/meta"
)

// rich has something of all that an image may have.
func rich() *paper {
	return &paper{
		applied: 300,
		seats:   []seat{{1, 1, true}, {2, 64, false}, {4, most, true}, {7, 5, true}},
		rows:    []row{{"zz-9", 1, 2}, {"a", 3, 1}, {strings.Repeat("x", 32), 4, 1}},
		parts: []api.Part{
			part(1, 1, 3, 5, 2, l(1, 2), l(1, 2, 4)),
			part(2, 0, most, most, 5, l(2), l(4, 7, 1, 2), l(4, 7), l(2)),
			part(3, 7, 1, 1, 1, l(7, 6, 5, 4, 3, 2, 1), l(1, 2, 3, 4, 5, 6, 7), l(1, 2, 3), l(4, 5, 6, 7)),
			part(4, 4, 70, 200, 1, l(4), l(4)),
		},
		epochs: l(0, 64, most, 0),
	}
}

// A3: Keep

func TestKeepsBytes(t *testing.T) {
	m := meta.New()
	for _, r := range []api.Meta{register(3, 64), unfence(3, 64), register(2, 1), unfence(2, 1), register(7, 9), topic("b-1", 2, 2, 2), topic("a", 1, 1, 1), move(1, 3), pid(0), pid(0), pid(2), {}} {
		m.Apply(r)
	}
	rest := "\x18" + // twelve records
		"\x06" + "\x04\x02\x02" + "\x06\x80\x01\x02" + "\x0e\x12\x00" +
		"\x04" + "\x06b-1\x02\x04" + "\x02a\x06\x02" +
		"\x06" + "\x04\x02\x04\x04" + "\x04\x04\x06" + "\x04\x06\x04" + "\x00" + "\x02\x04" +
		"\x06\x02\x02\x04" + "\x04\x06\x04" + "\x04\x06\x04" + "\x00" + "\x00" +
		"\x04\x02\x02\x02" + "\x02\x04" + "\x02\x04" + "\x00" + "\x00" +
		"\x04" + "\x00" + "\x02"
	if got := m.Keep(); got != sealed(rest) {
		t.Errorf("Keep: got %q, want %q", got, sealed(rest))
	}
	if got := meta.New().Keep(); got != sealed("\x00\x00\x00\x00\x00") {
		t.Errorf("Keep of nothing: %q", got)
	}
}

func TestKeepTellsBrokersByRisingIds(t *testing.T) {
	for _, ids := range [][]int{l(1, 2, 3, 4, 5, 6, 7), l(7, 6, 5, 4, 3, 2, 1), l(4, 1, 7, 2, 6, 3, 5)} {
		m, p := meta.New(), &paper{applied: 7}
		for _, id := range ids {
			wantTold(t, m, register(id, id*100), id)
		}
		for id := 1; id <= 7; id++ {
			p.seats = append(p.seats, seat{id, id * 100, false})
		}
		for range 5 {
			wantImage(t, "in any order", m, p)
		}
	}
}

func TestKeepChangesNothing(t *testing.T) {
	m := wantLoaded(t, rich())
	if m.Keep() != m.Keep() {
		t.Error("two of Keep are not one")
	}
	wantImage(t, "kept", m, rich())
}

// A3: Load

func TestLoadIsTheImage(t *testing.T) {
	wantLoaded(t, &paper{})
	m := wantLoaded(t, rich())
	// And it goes on as any.
	p := rich()
	for _, r := range []api.Meta{fence(1, 1), unfence(2, 64), register(4, 1), pid(4), pid(0), topic("a", 1, 1, 1), topic("n", 3, 3, 2), prefer(1), stay(3)} {
		n, e := m.Apply(r)
		if k, f := p.apply(r); n != k || e != f {
			t.Errorf("Apply(%+v): %d, %d, want %d, %d", r, n, int(e), k, int(f))
		}
		wantImage(t, "loaded, and applied to", m, p)
	}
}

func TestLoadOfAFewBytes(t *testing.T) {
	for _, s := range []string{"", "\x00", "ab", "abc", "\x00\x00\x00", "abcd", "\x00\x00\x00\x01", "\x00\x00\x00\x00"} {
		wantNoForm(t, "a few bytes", s)
	}
	for n := range 5 {
		wantNoForm(t, "too few zeros", sealed(strings.Repeat("\x00", n)))
	}
}

func TestLoadWithAnotherChecksum(t *testing.T) {
	s := rich().keep()
	for i := range len(s) {
		for bit := range 8 {
			b := []byte(s)
			b[i] ^= 1 << bit
			wantNoForm(t, "another bit", string(b))
		}
	}
	for n := range len(s) {
		wantNoForm(t, "cut", s[:n])
	}
	b := []byte(s)
	slices.Reverse(b[:4])
	wantNoForm(t, "a sum with the lowest byte first", string(b))
}

// What is cut, or has more behind it, is no image, though its checksum is right.
func TestLoadOfLessOrMore(t *testing.T) {
	for _, p := range []*paper{{}, rich(), {epochs: l(1, 2, 3)}, {seats: []seat{{1, 1, true}}}} {
		rest := p.keep()[4:]
		for n := range len(rest) {
			wantNoForm(t, "cut", sealed(rest[:n]))
		}
		for _, more := range []string{"\x00", "\x02", "\x80", "x", rest} {
			wantNoForm(t, "with more behind", sealed(rest+more))
		}
	}
}

// tokensWith is sealed tokens with another one in a place.
func tokensWith(list []string, i int, other string) string {
	list = slices.Clone(list)
	list[i] = other
	return sealed(strings.Join(list, ""))
}

func TestLoadOfNumbersInOtherBytes(t *testing.T) {
	p := rich()
	tokens := p.tokens()
	names := map[string]int{}
	for _, r := range p.rows {
		names[r.name]++
	}
	for i, b := range tokens {
		if names[b] > 0 {
			continue
		}
		last := len(b) - 1
		for _, other := range []string{
			b[:last] + string([]byte{b[last] | 128, 0}),
			b[:last] + string([]byte{b[last] | 128, 128, 0}),
			b[:last] + string([]byte{b[last] | 128}),
			"\x80\x80\x80\x80\x80\x80\x80\x80\x80\x02",
			"",
			ints(-1), ints(math.MinInt), ints(math.MaxInt), ints(1 << 32), ints(-1 << 32),
		} {
			if i == 0 && other == ints(math.MaxInt) || i == 0 && other == ints(1<<32) {
				continue // of APPLIED they are right
			}
			wantNoForm(t, "number "+strconv.Itoa(i)+" in other bytes", tokensWith(tokens, i, other))
		}
	}
}

func TestLoadOfApplied(t *testing.T) {
	for _, n := range l(0, 1, 64, most, most+1, 1<<40, math.MaxInt) {
		p := rich()
		p.applied = n
		wantLoaded(t, p)
	}
	for _, n := range l(-1, -2, -most, math.MinInt) {
		p := rich()
		p.applied = n
		wantNoForm(t, "applied "+strconv.Itoa(n), p.keep())
		wantNoForm(t, "applied "+strconv.Itoa(n), (&paper{applied: n}).keep())
	}
}

func TestLoadOfBrokers(t *testing.T) {
	var all []seat
	for id := 1; id <= 7; id++ {
		all = append(all, seat{id, most + 1 - id, id%2 == 0})
		wantLoaded(t, &paper{seats: slices.Clone(all)})
		wantLoaded(t, &paper{seats: []seat{{id, 1, true}}})
	}
	for _, id := range noIds() {
		wantNoForm(t, "a broker "+strconv.Itoa(id), (&paper{seats: []seat{{id, 1, true}}}).keep())
		wantNoForm(t, "a broker "+strconv.Itoa(id), (&paper{seats: []seat{{3, 1, true}, {id, 1, true}}}).keep())
		wantNoForm(t, "a broker "+strconv.Itoa(id), (&paper{seats: append(all[:7:7], seat{id, 1, true})}).keep())
	}
	for _, life := range append(wild(), 0) {
		wantNoForm(t, "a life "+strconv.Itoa(life), (&paper{seats: []seat{{3, life, true}}}).keep())
		wantNoForm(t, "a life "+strconv.Itoa(life), (&paper{seats: []seat{{2, 1, true}, {3, life, false}}}).keep())
	}
	for _, ids := range [][]int{l(1, 1), l(2, 1), l(7, 7), l(1, 3, 2), l(1, 3, 3), l(7, 6), l(2, 3, 1)} {
		p := &paper{}
		for _, id := range ids {
			p.seats = append(p.seats, seat{id, 1, true})
		}
		wantNoForm(t, "brokers that do not rise", p.keep())
	}
}

func TestLoadOfWhetherABrokerIsUp(t *testing.T) {
	tokens := (&paper{seats: []seat{{3, 1, true}}}).tokens()
	if _, e := meta.Load(tokensWith(tokens, 4, ints(0))); e != api.OK {
		t.Errorf("0: %d", int(e))
	}
	for _, n := range append(wild(), 2, 3, 64, most) {
		wantNoForm(t, "up "+strconv.Itoa(n), tokensWith(tokens, 4, ints(n)))
	}
}

// topicsOf is on paper: topics with so many partitions each.
func topicsOf(counts ...int) *paper {
	p := &paper{}
	for i, n := range counts {
		p.rows = append(p.rows, row{"t" + strconv.Itoa(i), len(p.parts) + 1, n})
		for range min(n, 100) {
			p.parts = append(p.parts, part(len(p.parts)+1, 1, 1, 1, 1, l(1), l(1)))
		}
	}
	return p
}

func TestLoadOfTopics(t *testing.T) {
	for _, counts := range [][]int{l(1), l(16), l(1, 15), l(15, 1), l(4, 4, 4, 4), slices.Repeat(l(1), 16), l(3, 1, 2)} {
		wantLoaded(t, topicsOf(counts...))
	}
	for _, counts := range [][]int{l(17), l(16, 1), l(1, 16), l(0), l(1, 0), l(0, 1), slices.Repeat(l(1), 17), l(15, 2), l(100), l(-1), l(2, -1)} {
		p := topicsOf(counts...)
		wantNoForm(t, "topics", p.keep())
		// With as many partitions as may be, too.
		p.parts = p.parts[:min(len(p.parts), 16)]
		wantNoForm(t, "topics", p.keep())
	}
	for _, n := range append(wild(), 0, 17, 18) {
		p := topicsOf(1, 1)
		p.rows[1].count = n
		wantNoForm(t, "a topic of partitions", p.keep())
		p = topicsOf(1)
		p.rows[0].count = n
		wantNoForm(t, "a topic of partitions", p.keep())
	}
}

func TestLoadOfTopicsFirstIds(t *testing.T) {
	for i, right := range l(1, 3, 4) {
		for _, first := range append(wild(), 0, 1, 2, 3, 4, 5, 6, 16, 17) {
			p := topicsOf(2, 1, 3)
			p.rows[i].first = first
			if first == right {
				wantLoaded(t, p)
			} else {
				wantNoForm(t, "a first id "+strconv.Itoa(first), p.keep())
			}
		}
	}
	// All are one further.
	p := topicsOf(2, 1)
	p.rows[0].first, p.rows[1].first = 2, 4
	wantNoForm(t, "ids from 2 on", p.keep())
}

func TestLoadOfTopicsNames(t *testing.T) {
	for _, name := range []string{"a", "-", "0", "z9-", strings.Repeat("q", 32)} {
		p := topicsOf(1, 1)
		p.rows[1].name = name
		wantLoaded(t, p)
	}
	for _, name := range []string{"", "A", "a_", " a", "a\x00", "é", "\xff", "a/b", "`", "{", ":", ",", ".", strings.Repeat("q", 33), strings.Repeat("q", 70000)} {
		for i := range 2 {
			p := topicsOf(1, 1)
			p.rows[i].name = name
			wantNoForm(t, "a name", p.keep())
		}
	}
	p := topicsOf(1, 1, 1)
	p.rows[2].name = p.rows[0].name
	wantNoForm(t, "a name twice", p.keep())
	p = topicsOf(1, 1, 1)
	p.rows[1].name = p.rows[0].name
	wantNoForm(t, "a name twice", p.keep())
}

func TestLoadOfAnotherNumberOfPartitions(t *testing.T) {
	for _, n := range l(0, 1, 2, 4, 5, 16) {
		p, all := topicsOf(2, 1), topicsOf(16)
		p.parts = all.parts[:n]
		wantNoForm(t, "partitions of topics with 3", p.keep())
	}
	p := topicsOf(3)
	p.rows = nil
	wantNoForm(t, "partitions of no topic", p.keep())
}

func TestLoadOfPartitions(t *testing.T) {
	for i := range 3 {
		for _, right := range []api.Part{
			part(0, 0, 1, 1, 1, l(7), l(7)), part(0, 2, most, most, 5, l(2, 1), l(1, 2), nil, l(1)),
			part(0, 2, 3, 4, 1, l(2), l(1, 2), l(2)), part(0, 0, 3, 4, 1, l(5, 2), l(1, 2, 5), l(5), l(1, 2)),
		} {
			p := topicsOf(3)
			right.Id = i + 1
			p.parts[i] = right
			wantLoaded(t, p)
		}
		for _, wrong := range wrongParts() {
			p := topicsOf(3)
			p.parts[i] = wrong
			wantNoForm(t, "a partition", p.keep())
		}
	}
}

// wrongParts are states that are not right, whatever their Id is.
func wrongParts() []api.Part {
	list := []api.Part{
		part(0, 1, 1, 1, 1, nil, l(1)), part(0, 0, 1, 1, 1, nil, l(1)), part(0, 0, 1, 1, 1, nil, nil),
		part(0, 1, 1, 1, 1, l(1), l(2)), part(0, 1, 1, 1, 1, l(1, 2), l(1)), part(0, 2, 1, 1, 1, l(1), l(1, 2)), part(0, 8, 1, 1, 1, l(1), l(1)),
		part(0, 1, 1, 1, 1, l(1, 1), l(1)), part(0, 1, 1, 1, 1, l(1), l(1, 1)), part(0, 1, 1, 1, 1, l(1), l(1, 8)), part(0, 1, 1, 1, 1, l(1, 0), l(1, 0)),
		part(0, 1, 1, 1, 1, l(1), l(1), l(2)), part(0, 1, 1, 1, 1, l(1), l(1), nil, l(1)), part(0, 1, 1, 1, 1, l(1), l(1, 2), l(2), l(2)),
		part(0, 1, 1, 1, 1, l(1), l(1, 2), nil, l(3)), part(0, 1, 1, 1, 1, l(1), l(1, 2), l(2, 2)), part(0, 1, 1, 1, 1, l(1), l(1, 2), nil, l(2, 2)),
	}
	eight := l(1, 2, 3, 4, 5, 6, 7, 8)
	for i := range 4 {
		p := part(0, 1, 1, 1, 1, l(1), l(1, 2, 3, 4, 5, 6, 7))
		*listOf(&p, i) = eight
		q := part(0, 1, 1, 1, 1, l(1), l(1, 2, 3, 4, 5, 6, 7))
		*listOf(&q, i) = l(1, 2, 3, 4, 5, 6, 7, 7)
		list = append(list, p, q)
	}
	for _, n := range append(wild(), 0) {
		list = append(list, part(0, 1, n, 1, 1, l(1), l(1)), part(0, 1, 1, n, 1, l(1), l(1)), part(0, 1, 1, 1, n, l(1), l(1)))
		if n != 0 {
			list = append(list, part(0, n, 1, 1, 1, l(1), l(1)))
		}
	}
	return append(list, part(0, 1, 1, 1, 6, l(1), l(1)))
}

// An image need not have the brokers that its partitions speak of, nor need a leader be up: what Load asks is all.
func TestLoadOfPartitionsOfOtherBrokers(t *testing.T) {
	m := wantLoaded(t, topicsOf(2))
	wantErr(t, m, fence(1, 1), api.ErrNone)
	wantTold(t, m, register(1, 1), 1)
	wantPart(t, m, 1, 1, 1, 1, 1, l(1), l(1))
	wantTold(t, m, unfence(1, 1), 1)
	wantTold(t, m, fence(1, 1), 1)
	wantPart(t, m, 2, 0, 2, 2, 1, l(1), l(1))
}

func TestLoadOfProducers(t *testing.T) {
	for _, n := range l(1, 2, 999, 1000) {
		wantLoaded(t, &paper{epochs: slices.Repeat(l(n), n)})
	}
	for _, n := range l(1001, 1002, 5000) {
		wantNoForm(t, "too many producers", (&paper{epochs: slices.Repeat(l(0), n)}).keep())
	}
	for _, n := range l(0, 1, most-1, most) {
		wantLoaded(t, &paper{epochs: l(n, 5, n)})
	}
	for _, n := range wild() {
		wantNoForm(t, "an epoch", (&paper{epochs: l(n)}).keep())
		wantNoForm(t, "an epoch", (&paper{epochs: l(0, n, 0)}).keep())
		wantNoForm(t, "an epoch", (&paper{epochs: l(0, 0, n)}).keep())
	}
}

// Counts of any size are found out, and soon.
func TestLoadOfOtherCounts(t *testing.T) {
	for _, n := range append(wild(), 8, 17, 1001, most, 1<<31, 1<<62) {
		for ahead := 1; ahead < 5; ahead++ {
			for _, fill := range []string{"", "\x00", "\x02", "\x80"} {
				wantNoForm(t, "a count", sealed(strings.Repeat("\x00", ahead)+ints(n)+strings.Repeat(fill, 100000)))
			}
		}
	}
}

// A3: Clone

func TestClone(t *testing.T) {
	for _, p := range []*paper{{}, rich(), full(), topicsOf(3, 4)} {
		m := wantLoaded(t, p)
		wantImage(t, "Clone", m.Clone(), p)
		wantImage(t, "Clone of it", m.Clone().Clone(), p)
	}
}

// Each of two goes its own way, whichever of them a record is applied to.
func TestCloneSharesNothing(t *testing.T) {
	records := []api.Meta{fence(1, 1), register(7, 6), register(3, 1), unfence(2, 64), topic("n", 2, 2, 1), alter(1, 1, 3, 5, 1), move(4, 7), stay(3), done(2), prefer(4), pid(0), pid(1), {}}
	for i, r := range records {
		m := wantLoaded(t, rich())
		// Some are applied ahead, so that lists have room behind them.
		m.Apply(pid(0))
		m.Apply(topic("m", 1, 1, 1))
		kept := m.Keep()
		c := m.Clone()
		c.Apply(r)
		if m.Keep() != kept || c.Keep() == kept {
			t.Errorf("%+v: a copy's record is one of the image, or does nothing", r)
		}
		was := c.Keep()
		for _, r := range records[i:] {
			m.Apply(r)
		}
		if c.Keep() != was {
			t.Errorf("%+v: the image's records are the copy's", r)
		}
	}
	// New ones stand in the same places of both.
	m := cluster(t, 1, 2, 3)
	for i, name := range []string{"x", "y", "z"} { // so many that all lists have room for one more
		wantTold(t, m, topic(name, 1, 1, 1), i+1)
		wantTold(t, m, pid(0), i+1)
	}
	c := m.Clone()
	wantTold(t, m, topic("m", 2, 1, 1), 4)
	wantTold(t, c, topic("c", 2, 2, 2), 4)
	wantTold(t, m, pid(0), 4)
	wantTold(t, c, pid(0), 4)
	wantTold(t, m, pid(4), 1)
	wantTold(t, c, pid(4), 1)
	wantPart(t, m, 4, 1, 1, 1, 1, l(1), l(1))
	wantPart(t, c, 4, 1, 1, 1, 2, l(1, 2), l(1, 2))
	wantList(t, "m", m.Find("m"), l(4, 5))
	wantList(t, "c of m", m.Find("c"), nil)
	wantList(t, "m of c", c.Find("m"), nil)
}
