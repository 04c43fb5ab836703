package meta

import (
	"strings"

	"logboom/api"
	"logboom/reassign"
)

// kind is what a kind of record does to an image, and what it tells.
func kind(k int) func(*Image, api.Meta) (int, api.Errno) {
	switch k {
	case Register:
		return (*Image).register
	case Fence:
		return (*Image).fence
	case Unfence:
		return (*Image).unfence
	case Topic:
		return (*Image).makeTopic
	case Alter, Move, Stay, Done, Prefer:
		return (*Image).turn
	case Pid:
		return (*Image).givePid
	}
	return (*Image).refuse
}

// refuse is what a record does that is of no kind.
func (m *Image) refuse(api.Meta) (int, api.Errno) { return 0, api.ErrArg }

func (m *Image) register(r api.Meta) (int, api.Errno) {
	was, ok := m.brokers[r.A]
	switch {
	case !isBroker(r.A) || !isUpTo(r.B, api.MaxOffset):
		return 0, api.ErrArg
	case ok && r.B <= was.life:
		return 0, api.ErrFenced
	}
	if was.up {
		m.putOff(r.A)
	}
	if m.brokers == nil {
		// New did not make this image.
		m.brokers = map[int]broker{}
	}
	m.brokers[r.A] = broker{life: r.B}
	return r.A, api.OK
}

func (m *Image) fence(r api.Meta) (int, api.Errno) {
	if e := m.refused(r, false); e != api.OK {
		return 0, e
	}
	m.putOff(r.A)
	return r.A, api.OK
}

func (m *Image) unfence(r api.Meta) (int, api.Errno) {
	if e := m.refused(r, true); e != api.OK {
		return 0, e
	}
	m.brokers[r.A] = broker{life: r.B, up: true}
	for _, p := range m.parts {
		m.take(reassign.Back(p, r.A))
	}
	return r.A, api.OK
}

// refused tells why a broker's life may not be made up, or fenced.
func (m *Image) refused(r api.Meta, up bool) api.Errno {
	b, ok := m.brokers[r.A]
	switch {
	case !isBroker(r.A):
		return api.ErrArg
	case !ok:
		return api.ErrNone
	case r.B != b.life:
		return api.ErrFenced
	case b.up == up:
		return api.ErrState
	}
	return api.OK
}

// putOff fences a broker, and lets it give way in each partition to one that is still up.
func (m *Image) putOff(id int) {
	m.brokers[id] = broker{life: m.brokers[id].life}
	up := m.Up()
	for _, p := range m.parts {
		m.take(reassign.Fence(p, id, up))
	}
}

// take puts a state in its partition's place. What cannot be turned any more, as its epoch or its version is the last one, stays: a broker is fenced all the same.
func (m *Image) take(p api.Part, e api.Errno) {
	if e == api.OK {
		m.parts[p.Id-1] = p
	}
}

func (m *Image) makeTopic(r api.Meta) (int, api.Errno) {
	up := m.Up()
	switch {
	case !isName(r.Name) || !isUpTo(r.A, api.MaxParts) || !isUpTo(r.B, api.MaxReplicas) || !isUpTo(r.C, r.B):
		return 0, api.ErrArg
	case m.place(r.Name) >= 0:
		return 0, api.ErrTwice
	case len(m.parts)+r.A > api.MaxParts || len(up) < r.B:
		return 0, api.ErrMany
	}
	made := topic{strings.Clone(r.Name), len(m.parts) + 1, r.A}
	m.topics = append(m.topics, made)
	for k, id := range made.ids() {
		m.parts = append(m.parts, newPart(id, roundFrom(up, k, r.B), r.C))
	}
	return made.first, api.OK
}

// roundFrom is n of a list from a place on, round and round.
func roundFrom(list []int, place, n int) []int {
	out := make([]int, n)
	for i := range out {
		out[i] = list[(place+i)%len(list)]
	}
	return out
}

// newPart is a partition's first state: all of its replicas are in sync, as there is nothing yet.
func newPart(id int, replicas []int, least int) api.Part {
	p := api.Part{Id: id, Leader: replicas[0], Epoch: 1, Version: 1, Isr: replicas, Replicas: replicas, Min: least}
	return reassign.Clone(p)
}

// turn is what a record does that is of one partition: the next state stands in the place of the last one.
func (m *Image) turn(r api.Meta) (int, api.Errno) {
	if !isUpTo(r.A, len(m.parts)) {
		return 0, api.ErrNone
	}
	becomes := turnOf(r.Kind)
	p, e := becomes(m, m.parts[r.A-1], r)
	m.take(p, e)
	return p.Version, e
}

// turnOf is what a kind of record makes of a partition's state.
func turnOf(k int) func(*Image, api.Part, api.Meta) (api.Part, api.Errno) {
	switch k {
	case Alter:
		return (*Image).altered
	case Move:
		return (*Image).moving
	case Stay:
		return (*Image).staying
	case Done:
		return (*Image).moved
	}
	return (*Image).preferring
}

func (m *Image) altered(p api.Part, r api.Meta) (api.Part, api.Errno) {
	return reassign.Alter(p, r.B, r.C, r.D, r.List, m.Up())
}

func (m *Image) moving(p api.Part, r api.Meta) (api.Part, api.Errno) {
	return reassign.Begin(p, r.List, m.Up())
}

func (m *Image) staying(p api.Part, _ api.Meta) (api.Part, api.Errno) {
	return reassign.Cancel(p, m.Up())
}

func (m *Image) moved(p api.Part, _ api.Meta) (api.Part, api.Errno) {
	return reassign.Finish(p, m.Up())
}

// preferring asks first who is up: chapter 11 does not hold that against a leader.
func (m *Image) preferring(p api.Part, _ api.Meta) (api.Part, api.Errno) {
	first := p.Replicas[0]
	if !m.brokers[first].up {
		return api.Part{}, api.ErrState
	}
	return reassign.Elect(p, first)
}

func (m *Image) givePid(r api.Meta) (int, api.Errno) {
	switch {
	case r.A < 0:
		return 0, api.ErrArg
	case r.A > len(m.epochs):
		return 0, api.ErrNone
	case r.A == 0:
		return m.newPid()
	}
	epoch := &m.epochs[r.A-1]
	if *epoch >= api.MaxOffset {
		return 0, api.ErrOver
	}
	*epoch++
	return *epoch, api.OK
}

func (m *Image) newPid() (int, api.Errno) {
	if len(m.epochs) >= mostProducers {
		return 0, api.ErrMany
	}
	m.epochs = append(m.epochs, 0)
	return len(m.epochs), api.OK
}

func isUpTo(n, most int) bool { return n >= 1 && n <= most }

// isBroker tells whether a number may be a broker's id.
func isBroker(id int) bool { return isUpTo(id, api.MaxBrokers) }

// isName tells whether a text may be a topic's name.
func isName(s string) bool {
	if !isUpTo(len(s), api.MaxName) {
		return false
	}
	for i := range len(s) {
		if !isOfName(s[i]) {
			return false
		}
	}
	return true
}

func isOfName(c byte) bool {
	return c >= 'a' && c <= 'z' || c >= '0' && c <= '9' || c == '-'
}
