package meta_test

import (
	"encoding/binary"
	"fmt"
	"hash/crc32"
	"math"
	"slices"
	"strings"
	"testing"

	"logboom/api"
	"logboom/meta"
	"logboom/reassign"
)

const most = api.MaxOffset

// l is a list of brokers, or of partitions.
func l(ids ...int) []int { return ids }

// Records of each kind.

func register(id, life int) api.Meta { return api.Meta{Kind: 1, A: id, B: life} }

func fence(id, life int) api.Meta { return api.Meta{Kind: 2, A: id, B: life} }

func unfence(id, life int) api.Meta { return api.Meta{Kind: 3, A: id, B: life} }

func topic(name string, parts, replicas, least int) api.Meta {
	return api.Meta{Kind: 4, Name: name, A: parts, B: replicas, C: least}
}

func alter(part, leader, epoch, version int, isr ...int) api.Meta {
	return api.Meta{Kind: 5, A: part, B: leader, C: epoch, D: version, List: isr}
}

func move(part int, targets ...int) api.Meta { return api.Meta{Kind: 6, A: part, List: targets} }

func stay(part int) api.Meta { return api.Meta{Kind: 7, A: part} }

func pid(id int) api.Meta { return api.Meta{Kind: 8, A: id} }

func prefer(part int) api.Meta { return api.Meta{Kind: 9, A: part} }

func done(part int) api.Meta { return api.Meta{Kind: 10, A: part} }

// seat is a broker of an image on paper, row a topic.
type seat struct {
	id, life int
	up       bool
}

type row struct {
	name         string
	first, count int
}

// paper is an image as plainly as the document writes it down; it may also be one that may not be.
type paper struct {
	applied int
	seats   []seat
	rows    []row
	parts   []api.Part
	epochs  []int
}

func ints(list ...int) string {
	var b []byte
	for _, n := range list {
		b = binary.AppendVarint(b, int64(n))
	}
	return string(b)
}

func counted(list []int) []string {
	out := []string{ints(len(list))}
	for _, n := range list {
		out = append(out, ints(n))
	}
	return out
}

// tokens are the numbers and names that its bytes are made of, behind the checksum.
func (p paper) tokens() []string {
	out := []string{ints(p.applied), ints(len(p.seats))}
	for _, s := range p.seats {
		up := 0
		if s.up {
			up = 1
		}
		out = append(out, ints(s.id), ints(s.life), ints(up))
	}
	out = append(out, ints(len(p.rows)))
	for _, r := range p.rows {
		out = append(out, ints(len(r.name)), r.name, ints(r.first), ints(r.count))
	}
	out = append(out, ints(len(p.parts)))
	for _, x := range p.parts {
		out = append(out, ints(x.Leader), ints(x.Epoch), ints(x.Version), ints(x.Min))
		out = slices.Concat(out, counted(x.Isr), counted(x.Replicas), counted(x.Adding), counted(x.Removing))
	}
	return append(out, counted(p.epochs)...)
}

func sealed(rest string) string {
	sum := crc32.Checksum([]byte(rest), crc32.MakeTable(crc32.Castagnoli))
	return string(binary.BigEndian.AppendUint32(nil, sum)) + rest
}

func (p paper) keep() string { return sealed(strings.Join(p.tokens(), "")) }

func (p paper) clone() *paper {
	p.seats, p.rows, p.epochs = slices.Clone(p.seats), slices.Clone(p.rows), slices.Clone(p.epochs)
	p.parts = slices.Clone(p.parts)
	for i := range p.parts {
		p.parts[i] = reassign.Clone(p.parts[i])
	}
	return &p
}

func (p *paper) seat(id int) *seat {
	for i := range p.seats {
		if p.seats[i].id == id {
			return &p.seats[i]
		}
	}
	return nil
}

func (p *paper) up() []int {
	var list []int
	for _, s := range p.seats {
		if s.up {
			list = append(list, s.id)
		}
	}
	return list
}

// each turns all partitions; those that cannot be turned stay.
func (p *paper) each(does func(api.Part) (api.Part, api.Errno)) {
	for i, x := range p.parts {
		if y, e := does(x); e == api.OK {
			p.parts[i] = y
		}
	}
}

func (p *paper) fencing(id int) {
	p.seat(id).up = false
	up := p.up()
	p.each(func(x api.Part) (api.Part, api.Errno) { return reassign.Fence(x, id, up) })
}

// apply is A1, kind by kind.
func (p *paper) apply(r api.Meta) (int, api.Errno) {
	p.applied++
	switch r.Kind {
	case 1:
		return p.register(r)
	case 2, 3:
		return p.fence(r)
	case 4:
		return p.topic(r)
	case 5, 6, 7, 9, 10:
		return p.turn(r)
	case 8:
		return p.pid(r)
	}
	return 0, api.ErrArg
}

func (p *paper) register(r api.Meta) (int, api.Errno) {
	if r.A < 1 || r.A > 7 || r.B < 1 || r.B > 1000000000 {
		return 0, api.ErrArg
	}
	s := p.seat(r.A)
	if s == nil {
		p.seats = append(p.seats, seat{id: r.A, life: r.B})
		slices.SortFunc(p.seats, func(a, b seat) int { return a.id - b.id })
		return r.A, api.OK
	}
	if r.B <= s.life {
		return 0, api.ErrFenced
	}
	if s.up {
		p.fencing(r.A)
	}
	s.life = r.B
	return r.A, api.OK
}

func (p *paper) fence(r api.Meta) (int, api.Errno) {
	if r.A < 1 || r.A > 7 {
		return 0, api.ErrArg
	}
	s := p.seat(r.A)
	if s == nil {
		return 0, api.ErrNone
	}
	if s.life != r.B {
		return 0, api.ErrFenced
	}
	if s.up == (r.Kind == 3) {
		return 0, api.ErrState
	}
	if r.Kind == 2 {
		p.fencing(r.A)
		return r.A, api.OK
	}
	s.up = true
	p.each(func(x api.Part) (api.Part, api.Errno) { return reassign.Back(x, r.A) })
	return r.A, api.OK
}

func (p *paper) topic(r api.Meta) (int, api.Errno) {
	if len(r.Name) < 1 || len(r.Name) > 32 || strings.Trim(r.Name, "abcdefghijklmnopqrstuvwxyz0123456789-") != "" {
		return 0, api.ErrArg
	}
	if r.A < 1 || r.A > 16 || r.B < 1 || r.B > 5 || r.C < 1 || r.C > r.B {
		return 0, api.ErrArg
	}
	for _, x := range p.rows {
		if x.name == r.Name {
			return 0, api.ErrTwice
		}
	}
	up := p.up()
	if len(p.parts)+r.A > 16 || len(up) < r.B {
		return 0, api.ErrMany
	}
	first := len(p.parts) + 1
	p.rows = append(p.rows, row{r.Name, first, r.A})
	for range r.A {
		list := slices.Clone(up[:r.B])
		p.parts = append(p.parts, api.Part{Id: len(p.parts) + 1, Leader: list[0], Epoch: 1, Version: 1, Isr: list, Replicas: slices.Clone(list), Min: r.C})
		up = append(up[1:], up[0])
	}
	return first, api.OK
}

func (p *paper) turn(r api.Meta) (int, api.Errno) {
	if r.A < 1 || r.A > len(p.parts) {
		return 0, api.ErrNone
	}
	x, up := p.parts[r.A-1], p.up()
	var y api.Part
	var e api.Errno
	switch r.Kind {
	case 5:
		y, e = reassign.Alter(x, r.B, r.C, r.D, r.List, up)
	case 6:
		y, e = reassign.Begin(x, r.List, up)
	case 7:
		y, e = reassign.Cancel(x, up)
	case 10:
		y, e = reassign.Finish(x, up)
	case 9:
		if !slices.Contains(up, x.Replicas[0]) {
			return 0, api.ErrState
		}
		y, e = reassign.Elect(x, x.Replicas[0])
	}
	if e != api.OK {
		return 0, e
	}
	p.parts[r.A-1] = y
	return y.Version, api.OK
}

func (p *paper) pid(r api.Meta) (int, api.Errno) {
	switch {
	case r.A < 0:
		return 0, api.ErrArg
	case r.A > len(p.epochs):
		return 0, api.ErrNone
	case r.A == 0 && len(p.epochs) == 1000:
		return 0, api.ErrMany
	case r.A == 0:
		p.epochs = append(p.epochs, 0)
		return len(p.epochs), api.OK
	case p.epochs[r.A-1] == 1000000000:
		return 0, api.ErrOver
	}
	p.epochs[r.A-1]++
	return p.epochs[r.A-1], api.OK
}

// told is all that an image tells by its calls but APPLIED and Keep; asked as the paper has it, so both can be held against each other.
func told(m *meta.Image) string {
	var b strings.Builder
	fmt.Fprintf(&b, "parts %+v", m.Parts())
	for id := range 19 {
		p, ok := m.Part(id - 1)
		fmt.Fprintf(&b, "\npart %d %+v %v", id-1, p, ok)
	}
	for id := range 10 {
		life, ok := m.Life(id - 1)
		fmt.Fprintf(&b, "\nlife %d %d %v", id-1, life, ok)
	}
	fmt.Fprintf(&b, "\nup %v\ntopics %q", m.Up(), m.Topics())
	for _, name := range append(m.Topics(), "", "none") {
		fmt.Fprintf(&b, "\nfind %q %v", name, m.Find(name))
	}
	return b.String()
}

func (p *paper) told() string {
	var b strings.Builder
	fmt.Fprintf(&b, "parts %+v", p.parts)
	for id := range 19 {
		var x api.Part
		ok := id-1 >= 1 && id-1 <= len(p.parts)
		if ok {
			x = p.parts[id-2]
		}
		fmt.Fprintf(&b, "\npart %d %+v %v", id-1, x, ok)
	}
	for id := range 10 {
		if s := p.seat(id - 1); s != nil {
			fmt.Fprintf(&b, "\nlife %d %d true", id-1, s.life)
		} else {
			fmt.Fprintf(&b, "\nlife %d 0 false", id-1)
		}
	}
	finds := map[string][]int{}
	var names []string
	for _, r := range p.rows {
		names = append(names, r.name)
		for i := range r.count {
			finds[r.name] = append(finds[r.name], r.first+i)
		}
	}
	slices.Sort(names)
	fmt.Fprintf(&b, "\nup %v\ntopics %q", p.up(), names)
	for _, name := range append(names, "", "none") {
		fmt.Fprintf(&b, "\nfind %q %v", name, finds[name])
	}
	return b.String()
}

// wantImage asks that an image is the one on paper.
func wantImage(t *testing.T, what string, m *meta.Image, p *paper) {
	t.Helper()
	if got, want := told(m), p.told(); got != want {
		t.Fatalf("%s: it tells\n%s\nwant\n%s", what, got, want)
	}
	if m.Applied() != p.applied {
		t.Fatalf("%s: Applied is %d, want %d", what, m.Applied(), p.applied)
	}
	if got, want := m.Keep(), p.keep(); got != want {
		t.Fatalf("%s: Keep is\n%q\nwant\n%q", what, got, want)
	}
}

// wantLoaded asks that what is on paper is an image: that one.
func wantLoaded(t *testing.T, p *paper) *meta.Image {
	t.Helper()
	m, e := meta.Load(p.keep())
	if m == nil || e != api.OK {
		t.Fatalf("Load of %+v: %v, %d", *p, m, int(e))
	}
	wantImage(t, "loaded", m, p)
	return m
}

func wantNoForm(t *testing.T, what, s string) {
	t.Helper()
	if m, e := meta.Load(s); m != nil || e != api.ErrForm {
		t.Errorf("Load of %s, %.200q: %v, %d, want ErrForm", what, s, m, int(e))
	}
}

// wantTold asks that a record is taken, and tells that.
func wantTold(t *testing.T, m *meta.Image, r api.Meta, want int) {
	t.Helper()
	was := m.Applied()
	if n, e := m.Apply(r); n != want || e != api.OK || m.Applied() != was+1 {
		t.Errorf("Apply(%+v): %d, %d, Applied %d behind %d, want %d", r, n, int(e), m.Applied(), was, want)
	}
}

// wantErr asks that a record is refused, and that nothing but APPLIED is changed by it.
func wantErr(t *testing.T, m *meta.Image, r api.Meta, want api.Errno) {
	t.Helper()
	was, applied, rest := told(m), m.Applied(), behindApplied(m)
	if n, e := m.Apply(r); n != 0 || e != want {
		t.Errorf("Apply(%+v): %d, %d, want error %d", r, n, int(e), int(want))
	}
	if m.Applied() != applied+1 {
		t.Errorf("Apply(%+v): Applied is %d behind %d", r, m.Applied(), applied)
	}
	if told(m) != was || behindApplied(m) != rest {
		t.Errorf("Apply(%+v) errs, and makes\n%s\nof\n%s", r, told(m), was)
	}
}

// behindApplied is what Keep writes behind APPLIED.
func behindApplied(m *meta.Image) string {
	b := []byte(m.Keep()[4:])
	_, size := binary.Varint(b)
	return string(b[size:])
}

// wantPart asks that a partition is that; lists are Isr, Replicas, Adding, Removing.
func wantPart(t *testing.T, m *meta.Image, id, leader, epoch, version, least int, lists ...[]int) {
	t.Helper()
	want := part(id, leader, epoch, version, least, lists...)
	if got, ok := m.Part(id); !ok || fmt.Sprint(got) != fmt.Sprint(want) {
		t.Errorf("Part(%d): got %+v, %v, want %+v", id, got, ok, want)
	}
}

func part(id, leader, epoch, version, least int, lists ...[]int) api.Part {
	p := api.Part{Id: id, Leader: leader, Epoch: epoch, Version: version, Min: least}
	for i, list := range lists {
		*listOf(&p, i) = list
	}
	return p
}

// listOf is one of a state's four lists.
func listOf(p *api.Part, i int) *[]int {
	return [4]*[]int{&p.Isr, &p.Replicas, &p.Adding, &p.Removing}[i]
}

// wantList asks that a list is that.
func wantList(t *testing.T, what string, got, want []int) {
	t.Helper()
	if !slices.Equal(got, want) {
		t.Errorf("%s: got %v, want %v", what, got, want)
	}
}

// cluster is an image with brokers that are up, in the life 1.
func cluster(t *testing.T, ids ...int) *meta.Image {
	t.Helper()
	m := meta.New()
	for _, id := range ids {
		wantTold(t, m, register(id, 1), id)
		wantTold(t, m, unfence(id, 1), id)
	}
	return m
}

// wild are numbers that are none of the document's.
func wild() []int {
	return []int{-1, -2, -7, -most, most + 1, most + 2, 1 << 32, 1<<32 + 1, -1 << 32, math.MinInt, math.MinInt + 1, math.MaxInt}
}

// noIds are numbers that are no broker's; 0 is one of them.
func noIds() []int { return append(wild(), 0, 8, 9, 16, 64, 65, 256, 257, most) }
