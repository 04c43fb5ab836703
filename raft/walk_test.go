package raft_test

import (
	"fmt"
	"math"
	"math/rand"
	"slices"
	"strings"
	"testing"

	"logboom/api"
	"logboom/disk"
	"logboom/raft"
	"logboom/raftlog"
)

// paper is the document's node as plainly as it can be written, over a log on a disk of its own: the walks hold the node, and its disk, against it.
type paper struct {
	disk                    *disk.Disk
	log                     *raftlog.Log
	id, wait                int
	voters                  []int
	role                    string
	leader                  int
	votes                   map[int]bool
	next, match             map[int]int
	commit, taken           int
	hasDeadline             bool
	deadline, beat, drawNow int
}

func paperOn(d *disk.Disk, l *raftlog.Log, id, wait int, voters []int) *paper {
	p := &paper{disk: d, log: l, id: id, wait: wait, voters: voters, role: "follower"}
	p.commit, _, _ = l.Snapshot()
	return p
}

func (p *paper) term() int { return p.log.Term() }

func (p *paper) end() (int, int) { return p.log.Last() }

func (p *paper) termAt(index int) int {
	snap, term, _ := p.log.Snapshot()
	x, ok := p.log.At(index)
	switch {
	case ok:
		return x.Term
	case index == snap:
		return term
	case index == 0:
		return 0
	}
	return -1
}

func (p *paper) waitAnew(now int) {
	p.deadline = now + p.wait + p.drawNow%p.wait
	p.hasDeadline = p.deadline != -1
}

func (p *paper) follow(leader int) { p.role, p.leader = "follower", leader }

func (p *paper) msg(kind, to int) api.Msg {
	return api.Msg{Kind: kind, From: p.id, To: to, Term: p.term()}
}

func (p *paper) send(v int) api.Msg {
	if p.next[v] < p.log.First() {
		m := p.msg(api.SnapAsk, v)
		m.Index, m.Last, m.Text = p.log.Snapshot()
		return m
	}
	m := p.msg(api.AppendAsk, v)
	m.Index = p.next[v] - 1
	m.Last = p.termAt(p.next[v] - 1)
	m.High = p.commit
	m.Entries = p.log.From(p.next[v], 16)
	return m
}

func (p *paper) sendToAll() []api.Msg {
	var out []api.Msg
	for v := 1; v <= 7; v++ {
		if v != p.id && slices.Contains(p.voters, v) {
			out = append(out, p.send(v))
		}
	}
	return out
}

func (p *paper) b() int {
	if p.wait < 8 {
		return 1
	}
	return p.wait / 4
}

func (p *paper) lead(now int) []api.Msg {
	p.role, p.leader = "leader", p.id
	p.next, p.match = map[int]int{}, map[int]int{}
	end, _ := p.end()
	for _, v := range p.voters {
		p.next[v] = end + 1
	}
	if p.log.Put(end, []api.Entry{{Term: p.term(), Index: end + 1}}) != api.OK {
		p.follow(0)
		return nil
	}
	p.advance()
	p.beat = now + p.b()
	return p.sendToAll()
}

// advance goes through all indexes, one by one.
func (p *paper) advance() {
	end, _ := p.end()
	was := p.commit
	for index := was + 1; index <= end; index++ {
		have := 1
		for _, v := range p.voters {
			if v != p.id && p.match[v] >= index {
				have++
			}
		}
		if 2*have > len(p.voters) && p.termAt(index) == p.term() {
			p.commit = index
		}
	}
}

func (p *paper) tick(now, draw int) []api.Msg {
	p.drawNow = draw
	if draw < 0 {
		p.drawNow = -(draw + 1)
	}
	if p.role == "leader" {
		if now >= p.beat {
			p.beat = now + p.b()
			return p.sendToAll()
		}
		return nil
	}
	if !p.hasDeadline {
		p.waitAnew(now)
	}
	if now < p.deadline {
		return nil
	}
	p.waitAnew(now)
	if p.log.Turn(p.term()+1, p.id) != api.OK {
		return nil
	}
	p.role, p.leader, p.votes = "candidate", 0, map[int]bool{p.id: true}
	if 2*len(p.votes) > len(p.voters) {
		return p.lead(now)
	}
	var out []api.Msg
	for v := 1; v <= 7; v++ {
		if v != p.id && slices.Contains(p.voters, v) {
			m := p.msg(api.VoteAsk, v)
			m.Index, m.Last = p.end()
			out = append(out, m)
		}
	}
	return out
}

func (p *paper) step(now int, m api.Msg) []api.Msg {
	if m.To != p.id || m.From == p.id || !slices.Contains(p.voters, m.From) || m.Kind < 1 || m.Kind > 6 || m.Term < 0 {
		return nil
	}
	if m.Term > p.term() {
		if p.log.Turn(m.Term, 0) != api.OK {
			return nil
		}
		p.follow(0)
	}
	answer := p.msg(m.Kind+1, m.From)
	if m.Term < p.term() {
		if m.Kind%2 == 0 {
			return nil
		}
		answer.Err = api.ErrFenced
		return []api.Msg{answer}
	}
	switch m.Kind {
	case api.VoteAsk:
		index, term := p.end()
		behind := m.Last < term || m.Last == term && m.Index < index
		free := p.log.Vote() == 0 || p.log.Vote() == m.From
		if !behind && p.role != "leader" && free && p.log.Turn(p.term(), m.From) == api.OK {
			p.waitAnew(now)
		} else {
			answer.Err = api.ErrState
		}
		return []api.Msg{answer}
	case api.VoteTell:
		if m.Err == api.OK && p.role == "candidate" {
			p.votes[m.From] = true
			if 2*len(p.votes) > len(p.voters) {
				return p.lead(now)
			}
		}
		return nil
	case api.AppendTell, api.SnapTell:
		return p.told(m)
	}
	if p.role == "leader" {
		return nil
	}
	p.follow(m.From)
	p.waitAnew(now)
	if m.Kind == api.AppendAsk {
		answer.Err, answer.Index = p.put(m)
	} else {
		answer.Err, answer.Index = p.snap(m)
	}
	return []api.Msg{answer}
}

func (p *paper) put(m api.Msg) (api.Errno, int) {
	end, _ := p.end()
	if m.Index < 0 || m.Index > end || m.Index >= p.log.First()-1 && p.termAt(m.Index) != m.Last {
		index := m.Index - 1
		if end < index {
			index = end
		}
		if index < 0 {
			index = 0
		}
		return api.ErrOrder, index
	}
	if e := p.log.Put(m.Index, m.Entries); e != api.OK {
		return e, 0
	}
	k := m.Index + len(m.Entries)
	p.commit = max(p.commit, min(k, m.High))
	return api.OK, k
}

func (p *paper) snap(m api.Msg) (api.Errno, int) {
	if m.Index > p.commit {
		if e := p.log.Snap(m.Index, m.Last, m.Text); e != api.OK {
			return e, 0
		}
		p.commit = m.Index
	}
	return api.OK, m.Index
}

func (p *paper) told(m api.Msg) []api.Msg {
	if p.role != "leader" {
		return nil
	}
	end, _ := p.end()
	switch {
	case m.Err == api.OK:
		p.match[m.From] = max(p.match[m.From], min(m.Index, end))
		p.next[m.From] = p.match[m.From] + 1
		p.advance()
		if p.next[m.From] > end {
			return nil
		}
	case m.Err == api.ErrOrder && m.Kind == api.AppendTell:
		next := min(p.next[m.From]-1, m.Index+1)
		if next < 1 {
			next = 1
		}
		if next <= p.match[m.From] {
			next = p.match[m.From] + 1
		}
		p.next[m.From] = next
	default:
		return nil
	}
	return []api.Msg{p.send(m.From)}
}

func (p *paper) propose(data string) (int, []api.Msg, api.Errno) {
	if p.role != "leader" {
		return 0, nil, api.ErrLeader
	}
	end, _ := p.end()
	if e := p.log.Put(end, []api.Entry{{Term: p.term(), Index: end + 1, Data: data}}); e != api.OK {
		return 0, nil, e
	}
	p.advance()
	return end + 1, p.sendToAll(), api.OK
}

func (p *paper) take() ([]api.Entry, bool) {
	var out []api.Entry
	index, term, data := p.log.Snapshot()
	from, snap := p.taken, index > p.taken
	if snap {
		out = append(out, api.Entry{Term: term, Index: index, Data: data})
		from = index
	}
	for i := from + 1; i <= p.commit; i++ {
		if x, ok := p.log.At(i); ok {
			out = append(out, x)
		}
	}
	p.taken = p.commit
	return out, snap
}

func (p *paper) compact(index int, data string) api.Errno {
	if snap, _, _ := p.log.Snapshot(); index > p.taken || index <= snap {
		return api.ErrRange
	}
	return p.log.Snap(index, p.termAt(index), data)
}

// chance makes choices, always the same ones for one seed.
type chance struct{ *rand.Rand }

// near is a number from a bit below n to a bit above; sometimes it is any.
func (c chance) near(n int) int {
	if c.Intn(60) == 0 {
		return []int{-1, 0, 1, most, most + 1, math.MinInt, math.MaxInt}[c.Intn(7)]
	}
	return n - 2 + c.Intn(5)
}

// within is an index of those that the log has, and a bit around.
func (c chance) within(p *paper) int {
	snap, _, _ := p.log.Snapshot()
	end, _ := p.end()
	return c.near(snap + c.Intn(end-snap+1))
}

// message is one that may well come to the node as it is.
func (c chance) message(p *paper) api.Msg {
	m := api.Msg{Kind: 1 + c.Intn(6), From: p.voters[c.Intn(len(p.voters))], To: p.id, Term: p.term()}
	if p.role == "candidate" && c.Intn(2) == 0 {
		m.Kind = api.VoteTell
	}
	switch c.Intn(12) {
	case 0:
		m.Term = p.term() + 1
	case 1:
		m.Term = c.near(p.term())
	}
	switch c.Intn(60) {
	case 0:
		m.Kind = c.near(4)
	case 1:
		m.From = c.near(4)
	case 2:
		m.To = c.near(p.id)
	}
	switch m.Kind {
	case api.VoteAsk:
		m.Index, m.Last = p.end()
		if c.Intn(2) == 0 {
			m.Index, m.Last = c.near(m.Index), c.near(m.Last)
		}
	case api.AppendAsk:
		c.entriesOf(p, &m)
	case api.SnapAsk:
		m.Index, m.Text = c.near(p.commit+2), strings.Repeat("s", c.Intn(40))
		m.Last = p.termAt(m.Index)
		if c.Intn(3) == 0 || m.Last < 0 {
			m.Last = c.near(p.term() - 1)
		}
	case api.AppendTell, api.SnapTell:
		m.Index = c.within(p)
		m.Err = []api.Errno{api.OK, api.OK, api.OK, api.ErrOrder, api.ErrOrder, api.ErrFull}[c.Intn(6)]
	case api.VoteTell:
		m.Err = []api.Errno{api.OK, api.OK, api.OK, api.ErrState}[c.Intn(4)]
	}
	return m
}

// entriesOf gives an AppendAsk what the log has, and then others.
func (c chance) entriesOf(p *paper, m *api.Msg) {
	m.Index = c.within(p)
	m.Last = p.termAt(m.Index)
	if c.Intn(8) == 0 {
		m.Last = c.near(m.Last)
	}
	m.High = c.near(p.commit + 1)
	alike := c.Intn(5)
	last := max(m.Last, 1)
	for i := range c.Intn(6) {
		x := api.Entry{Term: last, Index: m.Index + i + 1, Data: strings.Repeat("d", c.Intn(9))}
		if y, ok := p.log.At(x.Index); ok && i < alike {
			x = y
		} else if c.Intn(3) == 0 && x.Term < p.term() {
			x.Term += 1 + c.Intn(p.term()-x.Term)
		}
		switch c.Intn(200) {
		case 0:
			x.Index++
		case 1:
			x.Term--
		case 2:
			x.Data = strings.Repeat("d", 2049)
		}
		last = x.Term
		m.Entries = append(m.Entries, x)
	}
}

func TestWalks(t *testing.T) {
	told := map[string]int{}
	for seed := range 400 {
		walk(t, chance{rand.New(rand.NewSource(int64(seed)))}, told)
	}
	for _, what := range []string{
		"follower", "candidate", "leader", "1 0", "2 0", "2 19", "2 13", "3 0", "4 0", "4 1", "4 2", "4 7", "4 11", "4 13", "5 0", "6 0", "6 1", "6 7", "6 13",
		"Propose 0", "Propose 7", "Propose 15", "Take true", "Take false", "Compact 0", "Compact 7", "Compact 10",
	} {
		if told[what] < 20 {
			t.Errorf("%s: %d times", what, told[what])
		}
	}
}

// voters is some ids, rising, and one of them.
func (c chance) someVoters() (int, []int) {
	voters := c.Perm(7)[:1+c.Intn(7)]
	for i := range voters {
		voters[i]++
	}
	slices.Sort(voters)
	return voters[c.Intn(len(voters))], voters
}

func walk(t *testing.T, c chance, told map[string]int) {
	t.Helper()
	d := made(t, []int{200, 400, 1500, 100000, 100000}[c.Intn(5)])
	id, voters := c.someVoters()
	wait := []int{1, 3, 4, 10, 10, 10, 20, 97}[c.Intn(8)]
	h := home{disk: d, log: opened(t, d)}
	p := &paper{}
	begin := func() {
		if h.Node != nil {
			h.disk.Crash([]int{c.Intn(9)})
			p.disk.Crash(nil)
			h.log = opened(t, h.disk)
		}
		twin := d.Clone()
		p = paperOn(twin, opened(t, twin), id, wait, voters)
		n, e := raft.New(id, voters, h.log, wait)
		must(t, e)
		h.Node = n
	}
	begin()
	now := 0
	for i := range 250 {
		what := fmt.Sprint("step ", i)
		var got, want []api.Msg
		switch c.Intn(14) {
		case 0, 1, 2:
			now += c.Intn(wait + 1)
			draw := c.Intn(2*wait) - wait
			what += fmt.Sprint(" Tick ", now, draw)
			got, want = h.Tick(now, draw), p.tick(now, draw)
		case 3, 4:
			data := strings.Repeat("p", c.Intn(30))
			a, b, e := h.Propose(now, data)
			a2, b2, e2 := p.propose(data)
			told[fmt.Sprint("Propose ", int(e2))]++
			if a != a2 || e != e2 {
				t.Fatalf("%s: Propose: got %d, %d, want %d, %d", what, a, int(e), a2, int(e2))
			}
			got, want = b, b2
		case 5:
			a, b := h.Take()
			a2, b2 := p.take()
			told[fmt.Sprint("Take ", b2)]++
			if !slices.Equal(a, a2) || b != b2 {
				t.Fatalf("%s: Take: got %v, %v, want %v, %v", what, a, b, a2, b2)
			}
		case 6:
			if c.Intn(2) == 0 {
				index, data := c.near(p.taken), strings.Repeat("c", c.Intn(60))
				a, b := h.Compact(index, data), p.compact(index, data)
				told[fmt.Sprint("Compact ", int(b))]++
				wantErr(t, what+" Compact", a, b)
			} else if c.Intn(8) == 0 {
				begin()
			} else {
				b := strings.Repeat("s", c.Intn(100))
				wantErr(t, what, h.disk.Replace("stuff", b), p.disk.Replace("stuff", b))
			}
		default:
			m := c.message(p)
			what += fmt.Sprintf(" %+v", m)
			got, want = h.Step(now, m), p.step(now, m)
		}
		told[p.role]++
		for _, m := range want {
			told[fmt.Sprint(m.Kind, int(m.Err))]++
		}
		wantMsgs(t, what, got, want...)
		h.wantSeen(t, what, seen{p.role == "leader", p.leader, p.term(), p.commit})
		h.wantKeptInLog(t, what, keptBy(p.log))
		if a, b := picture(h.disk), picture(p.disk); a != b {
			t.Fatalf("%s: the disk is\n%.1000s\nwant\n%.1000s", what, a, b)
		}
	}
}

func (h home) wantKeptInLog(t *testing.T, what string, want kept) {
	t.Helper()
	got := keptBy(h.log)
	if got.term != want.term || got.vote != want.vote || got.snap != want.snap || !slices.Equal(got.list, want.list) {
		t.Fatalf("%s: the log has\n%.500v\nwant\n%.500v", what, got, want)
	}
}
