package broker_test

import (
	"fmt"
	"math"
	"reflect"
	"slices"
	"strings"
	"testing"

	"logboom/api"
	"logboom/broker"
	"logboom/disk"
)

// l is a list of numbers.
func l(list ...int) []int { return list }

// wild are numbers that few would hand in.
func wild() []int {
	return l(-1, -2, math.MinInt, math.MinInt+1, api.MaxOffset, api.MaxOffset+1, 1<<32+1, math.MaxInt-1, math.MaxInt)
}

// must ends the test at the first call that is refused.
func must(t *testing.T, es ...api.Errno) {
	t.Helper()
	for i, e := range es {
		if e != api.OK {
			t.Fatalf("call %d: %v", i, e)
		}
	}
}

// config is that of the document's example.
func config(ids ...int) broker.Config {
	return broker.Config{Brokers: ids, Wait: 10, Beat: 5, Session: 30, Lag: 20, Segment: 1000}
}

func newDisk(t *testing.T, size int) *disk.Disk {
	t.Helper()
	d, e := disk.New(size)
	must(t, e)
	return d
}

// picture is all that a disk has.
func picture(d *disk.Disk) string {
	var s strings.Builder
	for _, name := range d.Names() {
		b, _ := d.Read(name)
		fmt.Fprintf(&s, "%s %d %q\n", name, d.Synced(name), b)
	}
	return s.String()
}

// bare is a message whose lists of nothing are nil.
func bare(m api.Msg) api.Msg {
	if len(m.Batches) == 0 {
		m.Batches = nil
	}
	if len(m.Entries) == 0 {
		m.Entries = nil
	}
	if len(m.Ints) == 0 {
		m.Ints = nil
	}
	return m
}

// same tells whether two lists of messages are one.
func same(a, b []api.Msg) bool {
	return slices.EqualFunc(a, b, func(x, y api.Msg) bool { return reflect.DeepEqual(bare(x), bare(y)) })
}

// show is a message as it is told when a test fails.
func show(list []api.Msg) string {
	var s strings.Builder
	for _, m := range list {
		fmt.Fprintf(&s, "%d: from %d to %d, id %d, part %d epoch %d, offset %d last %d, start %d high %d, term %d index %d, pid %d %d %d, err %d, %q %q, batches", m.Kind, m.From, m.To, m.Id, m.Part, m.Epoch, m.Offset, m.Last, m.Start, m.High, m.Term, m.Index, m.Pid, m.PidEpoch, m.Seq, int(m.Err), m.Name, m.Text)
		for _, b := range m.Batches {
			fmt.Fprintf(&s, " %d of %d", len(b.Records), b.Base)
		}
		s.WriteString(", entries")
		for _, x := range m.Entries {
			fmt.Fprintf(&s, " %d of %d: %q", x.Index, x.Term, x.Data)
		}
		fmt.Fprintln(&s, ", ints", m.Ints)
	}
	return s.String()
}
