package broker_test

import (
	"fmt"
	"slices"

	"logboom/api"
	"logboom/broker"
	"logboom/coord"
	"logboom/disk"
	"logboom/meta"
	"logboom/raft"
	"logboom/raftlog"
	"logboom/replica"
	"logboom/rpc"
	"logboom/store"
	"logboom/wire"
)

// paperWait is a request that waits, on paper.
type paperWait struct {
	m                   api.Msg
	epoch, offset, till int
}

// paperWish is a client's wish, on paper.
type paperWish struct {
	m           api.Msg
	index, term int
}

// paper is the chapter's broker as plainly as it can be written, on a disk of its own: the walks hold the broker against it.
type paper struct {
	id, life  int
	c         broker.Config
	d         *disk.Disk
	log       *raftlog.Log
	n         *raft.Node
	im        *meta.Image
	stores    map[int]*store.Store
	leaders   map[int]*replica.Leader
	followers map[int]*replica.Follower
	asked     map[int]int  // of followers that have asked
	hasTaken  map[int]bool // of followers that took an answer since
	made      int
	co        *coord.Coord
	coOver    *replica.Leader
	waits     []paperWait
	wishes    []paperWish
	heard     map[int]int
	proposed  map[string]int
	dutyTerm  int
	beat      int
	since     int
	out       []api.Msg
}

func newPaper(id int, c broker.Config, d *disk.Disk, life, now int) (*paper, api.Errno) {
	if !paperRight(c) || !slices.Contains(c.Brokers, id) || life < 1 || life > 1000000000 {
		return nil, api.ErrArg
	}
	l, e := raftlog.Open(d, "raft")
	if e != api.OK {
		return nil, e
	}
	n, e := raft.New(id, c.Brokers, l, c.Wait)
	if e != api.OK {
		return nil, e
	}
	return &paper{
		id: id, life: life, c: c, d: d, log: l, n: n, im: meta.New(), beat: now,
		stores: map[int]*store.Store{}, leaders: map[int]*replica.Leader{}, followers: map[int]*replica.Follower{},
		asked: map[int]int{}, hasTaken: map[int]bool{}, heard: map[int]int{}, proposed: map[string]int{}, dutyTerm: -1,
	}, api.OK
}

func paperRight(c broker.Config) bool {
	if len(c.Brokers) < 1 || len(c.Brokers) > 7 {
		return false
	}
	for i, id := range c.Brokers {
		if id < 1 || id > 7 || i > 0 && id <= c.Brokers[i-1] {
			return false
		}
	}
	for _, n := range []int{c.Beat, c.Session, c.Lag} {
		if n < 1 || n > 1000000000 {
			return false
		}
	}
	return c.Wait >= 1 && c.Wait <= 1000000 && c.Segment >= 256 && c.Segment <= 1000000
}

func (p *paper) send(list ...api.Msg) { p.out = append(p.out, list...) }

func (p *paper) leads() []int {
	var list []int
	for part := range 17 {
		if p.leaders[part] != nil {
			list = append(list, part)
		}
	}
	return list
}

func (p *paper) high(part int) int {
	if x := p.leaders[part]; x != nil {
		return x.High()
	}
	if x := p.followers[part]; x != nil {
		return x.High()
	}
	return -1
}

// sent is what was to be sent.
func (p *paper) sent() []api.Msg {
	list := p.out
	p.out = nil
	return list
}

func (p *paper) refuse(m api.Msg, e api.Errno, last int) {
	a := rpc.Answer(m, e)
	a.Last = last
	p.send(a)
}

func (p *paper) theLeader(part int) int {
	x, ok := p.im.Part(part)
	if !ok {
		return 0
	}
	return x.Leader
}

func (p *paper) tick(now, draw int) []api.Msg {
	p.send(p.n.Tick(now, draw)...)
	p.settle(now)
	if p.n.Leads() {
		p.duties(now)
	}
	if now >= p.beat {
		p.toBeat(now)
		p.beat = now + p.c.Beat
	}
	for part := 1; part <= 16; part++ {
		x := p.followers[part]
		if x == nil || x.Part().Leader == 0 {
			continue
		}
		at, ok := p.asked[part]
		if !ok || now-at >= p.c.Beat || p.hasTaken[part] {
			p.send(x.Ask())
			p.asked[part], p.hasTaken[part] = now, false
		}
	}
	if p.co != nil {
		p.send(p.co.Tick(now)...)
		p.whatWaits()
	}
	return p.sent()
}

func (p *paper) duties(now int) {
	if p.n.Term() != p.dutyTerm {
		p.dutyTerm = p.n.Term()
		for id := 1; id <= 7; id++ {
			p.heard[id] = now
		}
	}
	for _, id := range p.im.Up() {
		if now-p.heard[id] >= p.c.Session {
			life, _ := p.im.Life(id)
			p.again(now, api.Meta{Kind: meta.Fence, A: id, B: life})
		}
	}
	for _, x := range p.im.Parts() {
		open := len(x.Adding)+len(x.Removing) > 0
		for _, id := range x.Replicas {
			if !slices.Contains(x.Removing, id) && !slices.Contains(x.Isr, id) {
				open = false
			}
		}
		if open {
			p.again(now, api.Meta{Kind: meta.Done, A: x.Id})
		}
	}
}

func (p *paper) propose(now int, r api.Meta) (int, api.Errno) {
	s, e := wire.Meta(r)
	if e != api.OK {
		return 0, e
	}
	index, list, e := p.n.Propose(now, s)
	p.send(list...)
	return index, e
}

// again proposes what was not proposed Beat ticks ago or later.
func (p *paper) again(now int, r api.Meta) {
	what := fmt.Sprint(r.Kind, " of ", r.A)
	if at, ok := p.proposed[what]; ok && now-at < p.c.Beat {
		return
	}
	p.proposed[what] = now
	p.propose(now, r)
}

func (p *paper) toBeat(now int) {
	hint := p.n.Leader()
	if hint == p.id {
		p.beatAsk(now, p.id, p.life)
	} else if hint != 0 {
		p.send(api.Msg{Kind: 11, From: p.id, To: hint, Index: p.life})
	}
	for part := 1; part <= 16; part++ {
		x := p.leaders[part]
		if x == nil || hint == 0 {
			continue
		}
		m, ok := x.Wish(now)
		if !ok {
			continue
		}
		if hint == p.id {
			p.propose(now, api.Meta{Kind: 5, A: part, B: p.id, C: m.Epoch, D: m.Offset, List: m.Ints})
		} else {
			m.To = hint
			p.send(m)
		}
	}
	for part := 1; part <= 16; part++ {
		if x := p.leaders[part]; x != nil {
			x.Store().Log().Save(x.High())
		}
	}
	for part := 1; part <= 16; part++ {
		if x := p.followers[part]; x != nil {
			x.Store().Log().Save(x.High())
		}
	}
}

func (p *paper) beatAsk(now, from, life int) {
	p.heard[from] = now
	known, _ := p.im.Life(from)
	if known < life {
		p.again(now, api.Meta{Kind: 1, A: from, B: life})
	}
	if known == life && !slices.Contains(p.im.Up(), from) {
		p.again(now, api.Meta{Kind: 3, A: from, B: life})
	}
}

func (p *paper) step(now int, m api.Msg) []api.Msg {
	if m.To != p.id || rpc.Right(m) != api.OK {
		return nil
	}
	x := p.leaders[m.Part]
	switch m.Kind {
	case 1, 2, 3, 4, 5, 6:
		p.send(p.n.Step(now, m)...)
	case 7:
		if x == nil {
			p.refuse(m, api.ErrLeader, 0)
		} else {
			p.send(x.Fetch(now, m))
		}
	case 8:
		if y := p.followers[m.Part]; y != nil {
			e := y.Take(m)
			p.hasTaken[m.Part] = p.hasTaken[m.Part] || e != api.ErrState && (m.Err != api.OK || len(m.Batches) > 0)
		}
	case 11, 13, 15:
		p.toController(now, m)
	case 17:
		p.produce(now, m, x)
	case 19:
		if m.Part == 1 {
			p.refuse(m, api.ErrArg, 0)
		} else if x == nil {
			p.refuse(m, api.ErrLeader, p.theLeader(m.Part))
		} else {
			p.waits = append(p.waits, paperWait{m, x.Part().Epoch, m.Offset, x.Turn()})
		}
	case 21:
		p.info(m)
	case 23:
		if p.co == nil {
			p.refuse(m, api.ErrCoord, p.theLeader(1))
		} else {
			p.send(p.co.Ask(now, m)...)
		}
	case 25:
		if x == nil {
			p.refuse(m, api.ErrLeader, p.theLeader(m.Part))
		} else if m.Part == 1 {
			p.refuse(m, api.ErrArg, 0)
		} else if e := x.Delete(m.Offset); e != api.OK {
			p.refuse(m, e, 0)
		} else {
			p.waits = append(p.waits, paperWait{m, x.Part().Epoch, m.Offset, m.Offset})
		}
	}
	p.settle(now)
	return p.sent()
}

func (p *paper) toController(now int, m api.Msg) {
	if !p.n.Leads() {
		p.refuse(m, api.ErrLeader, p.n.Leader())
		return
	}
	switch m.Kind {
	case 11:
		p.beatAsk(now, m.From, m.Index)
		p.refuse(m, api.OK, 0)
	case 13:
		_, e := p.propose(now, api.Meta{Kind: 5, A: m.Part, B: m.From, C: m.Epoch, D: m.Offset, List: m.Ints})
		p.refuse(m, e, 0)
	case 15:
		if !slices.Contains([]int{4, 6, 7, 8, 9}, m.Index) {
			p.refuse(m, api.ErrArg, 0)
			return
		}
		index, e := p.propose(now, api.Meta{Kind: m.Index, Name: m.Name, A: m.High, B: m.Seq, C: m.Pid, List: m.Ints})
		if e != api.OK {
			p.refuse(m, e, 0)
			return
		}
		p.wishes = append(p.wishes, paperWish{m, index, p.n.Term()})
	}
}

func (p *paper) produce(now int, m api.Msg, x *replica.Leader) {
	switch {
	case len(m.Batches) != 1 || m.Part == 1:
		p.refuse(m, api.ErrArg, 0)
	case x == nil:
		p.refuse(m, api.ErrLeader, p.theLeader(m.Part))
	case m.Epoch != 0 && m.Epoch < x.Part().Epoch:
		p.refuse(m, api.ErrFenced, 0)
	case m.Epoch != 0 && m.Epoch > x.Part().Epoch:
		p.refuse(m, api.ErrNewer, 0)
	default:
		n, e := x.Produce(now, m.Batches[0])
		if e != api.OK {
			p.refuse(m, e, 0)
			return
		}
		p.waits = append(p.waits, paperWait{m, x.Part().Epoch, n, n + len(m.Batches[0].Records)})
	}
}

func (p *paper) info(m api.Msg) {
	a := rpc.Answer(m, api.OK)
	x, ok := p.im.Part(m.Part)
	switch {
	case m.Name != "":
		if a.Ints = p.im.Find(m.Name); len(a.Ints) == 0 {
			a.Err = api.ErrNone
		}
	case ok:
		a.Epoch, a.Last, a.Offset, a.Ints = x.Epoch, x.Leader, x.Version, x.Isr
	default:
		a.Err = api.ErrNone
	}
	p.send(a)
}

func (p *paper) settle(now int) {
	list, first := p.n.Take()
	for i, x := range list {
		if i == 0 && first {
			if im, e := meta.Load(x.Data); e == api.OK {
				p.im, p.since = im, 0
			}
			continue
		}
		p.since++
		told, e := 0, api.OK
		if r, bad := wire.ReadMeta(x.Data); bad == api.OK {
			told, e = p.im.Apply(r)
		}
		for _, w := range p.wishes {
			if w.index == x.Index && w.term == x.Term {
				a := rpc.Answer(w.m, e)
				a.Offset = told
				p.send(a)
			} else if w.index == x.Index {
				p.refuse(w.m, api.ErrLeader, 0)
			}
		}
	}
	if p.since >= 200 {
		p.n.Compact(list[len(list)-1].Index, p.im.Keep())
		p.since = 0
	}
	if len(list) > 0 {
		for _, x := range p.im.Parts() {
			p.reconcile(now, x)
		}
		p.coordinator(now)
	}
	if p.co != nil {
		p.send(p.co.Run(now)...)
	}
	p.whatWaits()
}

func (p *paper) reconcile(now int, x api.Part) {
	life, known := p.im.Life(p.id)
	mine := known && life == p.life
	if mine && x.Leader == p.id && slices.Contains(p.im.Up(), p.id) {
		if y := p.leaders[x.Id]; y != nil && y.Part().Epoch == x.Epoch {
			y.Learn(x, now)
			return
		}
		p.leaders[x.Id], p.followers[x.Id] = nil, nil
		if s := p.store(x.Id); s != nil {
			if y, e := replica.Lead(p.id, s, x, now, p.c.Lag); e == api.OK {
				p.leaders[x.Id] = y
			}
		}
		return
	}
	p.leaders[x.Id] = nil
	if !mine || x.Leader == p.id || !slices.Contains(x.Replicas, p.id) {
		p.followers[x.Id] = nil
		return
	}
	if y := p.followers[x.Id]; y != nil && y.Part().Epoch == x.Epoch && y.Part().Leader == x.Leader {
		return
	}
	p.followers[x.Id] = nil
	if s := p.store(x.Id); s != nil {
		p.made++
		if y, e := replica.Follow(p.id, s, x, p.life, p.made); e == api.OK {
			p.followers[x.Id] = y
			delete(p.asked, x.Id)
			p.hasTaken[x.Id] = false
		}
	}
}

func (p *paper) store(part int) *store.Store {
	if p.stores[part] == nil {
		if s, e := store.Open(p.d, fmt.Sprint("part-", part), p.c.Segment); e == api.OK {
			p.stores[part] = s
		}
	}
	return p.stores[part]
}

func (p *paper) coordinator(now int) {
	x := p.leaders[1]
	if x == nil {
		p.co = nil
	} else if p.co == nil || p.coOver != x {
		p.co, p.coOver = nil, x
		if c, e := coord.New(x, now, p.c.Session); e == api.OK {
			p.co = c
		}
	}
}

func (p *paper) whatWaits() {
	was := p.waits
	p.waits = nil
	for _, w := range was {
		x := p.leaders[w.m.Part]
		a := rpc.Answer(w.m, api.OK)
		a.Offset = w.offset
		switch {
		case x == nil || x.Part().Epoch != w.epoch:
			p.refuse(w.m, api.ErrLeader, 0)
		case w.m.Kind == 17 && x.High() >= w.till || w.m.Kind == 25 && x.Deleted() >= w.till:
			p.send(a)
		case w.m.Kind == 19 && x.Turned(w.till):
			list, e := x.Read(w.m.Offset, 1)
			if e != api.OK {
				p.refuse(w.m, e, 0)
				break
			}
			a.Batches, a.High, a.Start = list, x.High(), x.Store().Log().Start()
			p.send(a)
		default:
			p.waits = append(p.waits, w)
		}
	}
}
