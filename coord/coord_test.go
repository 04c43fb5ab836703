package coord_test

import (
	"fmt"
	"math"
	"reflect"
	"slices"
	"strconv"
	"strings"
	"testing"

	"logboom/api"
	"logboom/coord"
	"logboom/disk"
	"logboom/groups"
	"logboom/replica"
	"logboom/store"
	"logboom/wire"
)

// beat is the kind of a member's beat.
const beat = 7

// l is a list of numbers.
func l(list ...int) []int { return list }

// wild are numbers that few would hand in.
func wild() []int {
	return l(-1, -2, math.MinInt, math.MinInt+1, api.MaxOffset, api.MaxOffset+1, 1<<32+1, math.MaxInt-1, math.MaxInt)
}

// must ends the test at the first call that is refused.
func must(t *testing.T, es ...api.Errno) {
	t.Helper()
	for i, e := range es {
		if e != api.OK {
			t.Fatalf("call %d: %v", i, e)
		}
	}
}

// rig is a leader of the epoch 3, on a disk of its own, and a coordinator over it.
type rig struct {
	t *testing.T
	d *disk.Disk
	x *replica.Leader
	c *coord.Coord
}

// state is the offsets' partition: the leader 1, replicas 1 and 2.
func state(min int, isr ...int) api.Part {
	return api.Part{Id: api.Offsets, Leader: 1, Epoch: 3, Version: 1, Isr: isr, Replicas: l(1, 2), Min: min}
}

func opened(t *testing.T, d *disk.Disk) *store.Store {
	t.Helper()
	s, e := store.Open(d, "part-1", 1000)
	must(t, e)
	return s
}

// led is a rig without a coordinator yet, over a store of a size.
func led(t *testing.T, size int, p api.Part) *rig {
	t.Helper()
	d, e := disk.New(size)
	must(t, e)
	x, e := replica.Lead(1, opened(t, d), p, 0, 1000)
	must(t, e)
	return &rig{t: t, d: d, x: x}
}

// coordinated makes the rig's coordinator, of sessions of 10.
func (r *rig) coordinated() *rig {
	r.t.Helper()
	var e api.Errno
	r.c, e = coord.New(r.x, 0, 10)
	must(r.t, e)
	return r
}

// alone is a coordinator that is ready, over a leader that is alone in its set: all is committed at once.
func alone(t *testing.T) *rig {
	t.Helper()
	r := led(t, 1000000, state(1, 1)).coordinated()
	r.want(r.c.Run(0))
	r.wantReady(true)
	return r
}

// pair is one that is ready, over a leader with a follower: nothing is committed that is not fetched.
func pair(t *testing.T) *rig {
	t.Helper()
	r := led(t, 1000000, state(1, 1, 2)).coordinated()
	r.fetched()
	r.want(r.c.Run(0))
	r.wantReady(true)
	return r
}

func (r *rig) next() int { return r.x.Store().Log().Next() }

// fetched has the follower have all: it is committed.
func (r *rig) fetched() { r.fetchedTo(r.next()) }

// fetchedTo has it have what lies ahead of an offset.
func (r *rig) fetchedTo(offset int) {
	r.t.Helper()
	m := api.Msg{Kind: api.FetchAsk, From: 2, To: 1, Part: api.Offsets, Epoch: 3, Offset: offset, Last: r.x.Store().Cache().Last()}
	if a := r.x.Fetch(0, m); a.Err != api.OK {
		r.t.Fatalf("Fetch of %d: %v", offset, a.Err)
	}
}

// put has the log take records as they are, in one batch, past the coordinator.
func (r *rig) put(values ...string) int {
	r.t.Helper()
	var b api.Batch
	for _, v := range values {
		b.Records = append(b.Records, api.Record{Value: v})
	}
	at, e := r.x.Produce(0, b)
	must(r.t, e)
	return at
}

// stuffed fills the disk but for so many bytes.
func (r *rig) stuffed(free int) {
	r.t.Helper()
	r.d.Remove("stuff")
	must(r.t, r.d.Append("stuff", strings.Repeat("x", r.d.Free()-free)), r.d.Sync("stuff"))
}

// ask is a request of the client 101.
func ask(kind int, group string, member, gen int, ints ...int) api.Msg {
	return api.Msg{Kind: api.GroupAsk, From: 101, To: 1, Id: 9, Index: kind, Name: group, Pid: member, Seq: gen, Ints: ints}
}

func join(group string, member int, parts ...int) api.Msg {
	return ask(groups.Join, group, member, 0, parts...)
}

func leave(group string, member int) api.Msg { return ask(groups.Leave, group, member, 0) }

func commit(group string, member, gen, part, offset, number int) api.Msg {
	m := ask(groups.Commit, group, member, gen, number)
	m.High, m.Offset = part, offset
	return m
}

func read(group string, part int) api.Msg {
	m := ask(groups.Read, group, 0, 0)
	m.High = part
	return m
}

func sync(group string, member, gen int) api.Msg { return ask(groups.Sync, group, member, gen) }

// from is a request of another client, with a number of its own.
func from(client, id int, m api.Msg) api.Msg {
	m.From, m.Id = client, id
	return m
}

// tells is the answer to a request of which that came.
func tells(m api.Msg, told groups.Told) api.Msg {
	return api.Msg{
		Kind: api.GroupTell, From: m.To, To: m.From, Id: m.Id, Part: m.Part, Index: m.Index,
		Err: told.Err, Pid: told.Member, Seq: told.Gen, Offset: told.Offset, Ints: told.Parts,
	}
}

// refused is the answer to one that is refused.
func refused(m api.Msg, e api.Errno) api.Msg { return tells(m, groups.Told{Err: e}) }

// member is what a Join tells, or a Sync.
func member(id, gen int, parts ...int) groups.Told {
	return groups.Told{Member: id, Gen: gen, Parts: parts}
}

// record is a record of groups as bytes.
func record(m api.Meta) string {
	s, e := wire.Meta(m)
	if e != api.OK {
		panic(e)
	}
	return s
}

func epoch(n int) string { return record(api.Meta{Kind: groups.Epoch, A: n}) }

// values are those of the records of the log, from an offset on.
func (r *rig) values(from int) []string {
	list := []string{}
	for _, b := range r.x.Store().Log().All() {
		for i, x := range b.Records {
			if b.Base+i >= from {
				list = append(list, x.Value)
			}
		}
	}
	return list
}

// wantWritten asks which records stand in the log from an offset on.
func (r *rig) wantWritten(from int, want ...api.Meta) {
	r.t.Helper()
	list := []string{}
	for _, m := range want {
		list = append(list, record(m))
	}
	if got := r.values(from); !slices.Equal(got, list) {
		r.t.Fatalf("written: %q, want %q", got, list)
	}
}

// plain has lists of nothing be nil, so that two messages can be held against each other.
func plain(list []api.Msg) []api.Msg {
	var out []api.Msg
	for _, m := range list {
		if len(m.Ints) == 0 {
			m.Ints = nil
		}
		out = append(out, m)
	}
	return out
}

func same(a, b []api.Msg) bool { return reflect.DeepEqual(plain(a), plain(b)) }

func (r *rig) want(got []api.Msg, want ...api.Msg) {
	r.t.Helper()
	if !same(got, want) {
		r.t.Fatalf("got\n%+v\nwant\n%+v", got, want)
	}
}

func (r *rig) wantReady(want bool) {
	r.t.Helper()
	if r.c.Ready() != want {
		r.t.Fatalf("Ready: %v", r.c.Ready())
	}
}

func (r *rig) wantOpen(want int) {
	r.t.Helper()
	if r.c.Open() != want {
		r.t.Fatalf("Open: %d, want %d", r.c.Open(), want)
	}
}

func (r *rig) wantMembers(group string, want ...int) {
	r.t.Helper()
	if got := r.c.Groups().Members(group); !slices.Equal(got, want) {
		r.t.Fatalf("the members of %s: %v, want %v", group, got, want)
	}
}

// wantUntouched asks that what is done changes neither the coordinator, as far as it tells, nor the disk.
func (r *rig) wantUntouched(do func()) {
	r.t.Helper()
	was := r.told()
	do()
	if is := r.told(); is != was {
		r.t.Fatalf("it made\n%q\nof\n%q", is, was)
	}
}

// told is what the coordinator tells, and what the disk has.
func (r *rig) told() string {
	return fmt.Sprint("ready ", r.c.Ready(), " open ", r.c.Open(), " ", toldOf(r.c.Groups()), "\n", picture(r.d))
}

// toldOf is what groups tell of themselves.
func toldOf(g *groups.Groups) string {
	var b strings.Builder
	fmt.Fprint(&b, "epoch ", g.Epoch())
	for _, name := range g.Names() {
		fmt.Fprint(&b, "\n", name, ": gen ", g.Gen(name), " members ", g.Members(name), " parts")
		for part := range 18 {
			fmt.Fprint(&b, " ", g.Owner(name, part), "/", g.Offset(name, part))
		}
	}
	return b.String()
}

// picture is all that a disk tells of itself.
func picture(d *disk.Disk) string {
	var b strings.Builder
	for _, name := range d.Names() {
		text, _ := d.Read(name)
		b.WriteString(name + " " + strconv.Itoa(d.Synced(name)) + " " + text + "\n")
	}
	return b.String()
}
