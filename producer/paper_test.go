package producer_test

import (
	"slices"

	"logboom/api"
	"logboom/wire"
)

// line is a call on paper.
type line struct {
	n, part         int
	list            []api.Record
	asked           bool
	pid, epoch, seq int
}

// errand is a request on paper: of a call, or, if that is nil, for the PID.
type errand struct {
	c                               *line
	number, broker, tries, deadline int
}

// paper is the chapter's producer as plainly as it can be written: the walks hold the producer against it.
type paper struct {
	id, wait, tries int
	brokers         []int
	pid, epoch      int
	stale           bool
	last            int // number of a request
	calls           int
	lines           []*line // those that are open
	next            map[int]int
	errands         []errand
	aims            map[int]int // 0: for the PID
	done            []api.Seen
	told            map[string]int // what the walks came by
}

func newPaper(id int, brokers []int, wait, tries int, told map[string]int) *paper {
	p := &paper{id: id, brokers: slices.Clone(brokers), wait: wait, tries: tries, stale: true, next: map[int]int{}, aims: map[int]int{}, told: told}
	for part := range 17 {
		p.aims[part] = brokers[0]
	}
	return p
}

// aim is whose aim an errand has.
func (p *paper) aim(e errand) int {
	if e.c == nil {
		return 0
	}
	return e.c.part
}

// ask asks for the errand at a place.
func (p *paper) ask(now, i int) api.Msg {
	p.last++
	if p.last > 1000000000 {
		p.last = 1
	}
	e := &p.errands[i]
	e.number = p.last
	e.broker = p.aims[p.aim(*e)]
	e.tries--
	e.deadline = now + p.wait
	if e.c == nil {
		return api.Msg{Kind: 15, From: p.id, To: e.broker, Id: e.number, Index: 8, High: p.pid}
	}
	c := e.c
	b := api.Batch{Pid: c.pid, PidEpoch: c.epoch, Seq: c.seq, Records: c.list}
	return api.Msg{Kind: 17, From: p.id, To: e.broker, Id: e.number, Part: c.part, Batches: []api.Batch{b}}
}

// first adds an errand, and asks for it.
func (p *paper) first(now int, c *line) api.Msg {
	p.errands = append(p.errands, errand{c: c, tries: p.tries})
	return p.ask(now, len(p.errands)-1)
}

func (p *paper) pump(now int) []api.Msg {
	var list []api.Msg
	if !p.stale {
		for _, c := range p.lines {
			if slices.ContainsFunc(p.errands, func(e errand) bool { return e.c == c || p.aim(e) == c.part }) {
				continue
			}
			if p.next[c.part]+len(c.list)-1 > 1000000 {
				p.stale = true
				p.told["sequences at an end"]++
				break
			}
			c.asked, c.pid, c.epoch, c.seq = true, p.pid, p.epoch, p.next[c.part]
			list = append(list, p.first(now, c))
		}
	}
	if p.stale && len(p.errands) == 0 && p.open() > 0 {
		list = append(list, p.first(now, nil))
	}
	return list
}

func (p *paper) open() int { return len(p.lines) }

func (p *paper) end(c *line, err api.Errno, offset int) {
	i := slices.Index(p.lines, c)
	p.lines = slices.Delete(p.lines, i, i+1)
	s := api.Seen{Client: p.id, Call: c.n, Kind: 10, Part: c.part, Text: c.list[0].Value, Err: err, Done: true}
	if c.asked {
		s.Pid, s.PidEpoch, s.Seq = c.pid, c.epoch, c.seq
	}
	if err == 0 {
		s.Offset = offset
	} else {
		p.stale = true
	}
	p.done = append(p.done, s)
}

func (p *paper) endAll(err api.Errno) {
	for len(p.lines) > 0 {
		p.end(p.lines[0], err, 0)
	}
}

func (p *paper) send(now, part int, list []api.Record) (int, []api.Msg, api.Errno) {
	if part < 2 || part > 16 {
		return 0, nil, api.ErrArg
	}
	if e := wire.Right(api.Batch{Pid: 1, Records: list}); e != api.OK {
		return 0, nil, e
	}
	if p.open() == 20 {
		return 0, nil, api.ErrMany
	}
	p.calls++
	n := p.calls
	p.lines = append(p.lines, &line{n: n, part: part, list: slices.Clone(list)})
	return n, p.pump(now), api.OK
}

// behind is the broker behind another one.
func (p *paper) behind(broker int) int {
	for i, id := range p.brokers {
		if id == broker && i+1 < len(p.brokers) {
			return p.brokers[i+1]
		}
	}
	return p.brokers[0]
}

// find is where the errand of a number stands.
func (p *paper) find(number int) int {
	for i, e := range p.errands {
		if e.number == number {
			return i
		}
	}
	return -1
}

func (p *paper) tick(now int) []api.Msg {
	var list []api.Msg
	for _, e := range slices.Clone(p.errands) {
		i := p.find(e.number)
		if e.deadline > now {
			continue
		}
		if e.tries == 0 {
			if e.c == nil {
				p.told["late for the PID"]++
				p.endAll(api.ErrLate)
			} else {
				p.told["late"]++
				p.end(e.c, api.ErrLate, 0)
			}
			p.errands = slices.Delete(p.errands, i, i+1)
			continue
		}
		p.told["asked anew"]++
		if a := p.aim(e); p.aims[a] == e.broker {
			p.aims[a] = p.behind(e.broker)
		}
		list = append(list, p.ask(now, i))
	}
	return append(list, p.pump(now)...)
}

func (p *paper) step(now int, m api.Msg) []api.Msg {
	i := p.find(m.Id)
	if i < 0 {
		p.told["of no request"]++
		return nil
	}
	e := &p.errands[i]
	kind := 18
	if e.c == nil {
		kind = 16
	}
	if m.From != e.broker || m.To != p.id || m.Kind != kind {
		p.told["no answer"]++
		return nil
	}
	switch m.Err {
	case 15:
		if slices.Contains(p.brokers, m.Last) {
			p.told["a hint"]++
			p.aims[p.aim(*e)] = m.Last
			e.deadline = now + 1
		} else {
			p.told["no hint"]++
			p.aims[p.aim(*e)] = p.behind(e.broker)
			e.deadline = now + p.wait
		}
	case 16, 7, 3, 19, 14:
		p.told["passing"]++
	default:
		p.take(*e, m)
	}
	return p.pump(now)
}

// take is what comes of an answer that ends an errand.
func (p *paper) take(e errand, m api.Msg) {
	p.errands = slices.DeleteFunc(p.errands, func(x errand) bool { return x.number == e.number })
	switch {
	case e.c == nil && m.Err == 0 && p.pid == 0:
		p.told["PID"]++
		p.pid, p.epoch = m.Offset, 0
	case e.c == nil && m.Err == 0:
		p.told["EPOCH"]++
		p.epoch = m.Offset
	case e.c == nil:
		p.told["no PID"]++
		p.endAll(m.Err)
		return
	case m.Err == 0:
		p.told["well"]++
		p.next[e.c.part] = e.c.seq + len(e.c.list)
		p.end(e.c, 0, m.Offset)
		return
	default:
		p.told["ended"]++
		p.end(e.c, m.Err, 0)
		return
	}
	clear(p.next)
	p.stale = false
}

func (p *paper) takeDone() []api.Seen {
	list := p.done
	p.done = nil
	return list
}
