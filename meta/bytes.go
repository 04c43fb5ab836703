package meta

import (
	"logboom/api"
	"logboom/pieces"
	"logboom/reassign"
)

// Keep and Load: as bytes, and back.
func (m *Image) Keep() string {
	b := pieces.AppendInts(nil, m.applied)
	b = m.appendBrokers(b)
	b = m.appendTopics(b)
	b = m.appendParts(b)
	b = appendList(b, m.epochs)
	return pieces.Seal(string(b))
}

func (m *Image) appendBrokers(b []byte) []byte {
	b = pieces.AppendInts(b, len(m.brokers))
	for _, id := range m.ids() {
		up := 0
		if m.brokers[id].up {
			up = 1
		}
		b = pieces.AppendInts(b, id, m.brokers[id].life, up)
	}
	return b
}

func (m *Image) appendTopics(b []byte) []byte {
	b = pieces.AppendInts(b, len(m.topics))
	for _, t := range m.topics {
		b = pieces.AppendText(b, t.name)
		b = pieces.AppendInts(b, t.first, t.count)
	}
	return b
}

func (m *Image) appendParts(b []byte) []byte {
	b = pieces.AppendInts(b, len(m.parts))
	for _, p := range m.parts {
		b = pieces.AppendInts(b, p.Leader, p.Epoch, p.Version, p.Min)
		b = appendList(b, p.Isr)
		b = appendList(b, p.Replicas)
		b = appendList(b, p.Adding)
		b = appendList(b, p.Removing)
	}
	return b
}

// appendList writes how many there are, and each.
func appendList(b []byte, list []int) []byte {
	return pieces.AppendInts(pieces.AppendInts(b, len(list)), list...)
}

func Load(s string) (*Image, api.Errno) {
	rest, e := pieces.Unseal(s)
	if e != api.OK {
		return nil, api.ErrForm
	}
	m, r := New(), pieces.Read(rest)
	m.applied = r.Int()
	ok := m.applied >= 0 && m.readBrokers(r) && m.readTopics(r) && m.readParts(r) && m.readEpochs(r)
	// Where the bytes ended too early there were zeros to be read, and the reader is not done.
	if !ok || !r.Done() {
		return nil, api.ErrForm
	}
	return m, api.OK
}

func (m *Image) readBrokers(r *pieces.Reader) bool {
	last := 0
	for range r.Count(api.MaxBrokers) {
		id, life, up := r.Int(), r.Int(), r.Int()
		if id <= last || !isBroker(id) || !isUpTo(life, api.MaxOffset) || up != 0 && up != 1 {
			return false
		}
		m.brokers[id] = broker{life: life, up: up == 1}
		last = id
	}
	return true
}

func (m *Image) readTopics(r *pieces.Reader) bool {
	for range r.Count(api.MaxParts) {
		t := topic{name: r.Text(api.MaxName), first: r.Int(), count: r.Int()}
		if !isName(t.name) || m.place(t.name) >= 0 || t.first != m.nextPart() || !isUpTo(t.count, api.MaxParts) {
			return false
		}
		m.topics = append(m.topics, t)
	}
	return true
}

// nextPart is the id behind those that the topics have.
func (m *Image) nextPart() int {
	if len(m.topics) == 0 {
		return 1
	}
	last := m.topics[len(m.topics)-1]
	return last.first + last.count
}

func (m *Image) readParts(r *pieces.Reader) bool {
	n := r.Count(api.MaxParts)
	if n != m.nextPart()-1 {
		return false
	}
	for i := range n {
		p := readPart(r, i+1)
		if !reassign.Right(p) {
			return false
		}
		m.parts = append(m.parts, p)
	}
	return true
}

func readPart(r *pieces.Reader, id int) api.Part {
	p := api.Part{Id: id, Leader: r.Int(), Epoch: r.Int(), Version: r.Int(), Min: r.Int()}
	p.Isr, p.Replicas = readList(r, api.MaxBrokers), readList(r, api.MaxBrokers)
	p.Adding, p.Removing = readList(r, api.MaxBrokers), readList(r, api.MaxBrokers)
	return p
}

func readList(r *pieces.Reader, most int) []int {
	var list []int
	for range r.Count(most) {
		list = append(list, r.Int())
	}
	return list
}

func (m *Image) readEpochs(r *pieces.Reader) bool {
	m.epochs = readList(r, mostProducers)
	for _, epoch := range m.epochs {
		if epoch < 0 || epoch > api.MaxOffset {
			return false
		}
	}
	return true
}
