package consumer_test

import (
	"fmt"
	"slices"
	"strconv"
	"strings"

	"logboom/api"
)

// line is an open call on paper, with its request.
type line struct {
	n                               int
	s                               api.Seen
	number, broker, tries, deadline int
	refused                         bool
}

// paper is the chapter's consumer as plainly as it can be written: the walks hold the consumer against it.
type paper struct {
	id, wait, tries int
	brokers         []int
	last, calls     int
	lines           []*line
	aims            map[string]int
	done            []api.Seen
	told            map[string]int // what the walks came by
}

func newPaper(id int, brokers []int, wait, tries int, told map[string]int) *paper {
	return &paper{id: id, wait: wait, tries: tries, brokers: slices.Clone(brokers), aims: map[string]int{}, told: told}
}

// aim is the name of whose aim a call has.
func (p *paper) aim(s api.Seen) string {
	switch s.Kind {
	case 1, 6:
		return fmt.Sprint("partition ", s.Part)
	case 2, 3, 4, 5:
		return "groups"
	}
	return "controller"
}

// at is the broker that an aim tells.
func (p *paper) at(aim string) int {
	if b, ok := p.aims[aim]; ok {
		return b
	}
	return p.brokers[0]
}

// numbers are those of a list as a text that a move may have.
func numbers(text string) ([]int, bool) {
	var list []int
	for _, s := range strings.Split(text, ",") {
		n, e := strconv.Atoi(s)
		if e != nil || n < 0 || n > 999 || strconv.Itoa(n) != s {
			return nil, false
		}
		list = append(list, n)
	}
	return list, len(list) <= 7
}

func (p *paper) ask(now int, c *line) api.Msg {
	p.last++
	c.number, c.broker, c.deadline, c.refused = p.last, p.at(p.aim(c.s)), now+p.wait, false
	c.tries--
	m := api.Msg{From: p.id, To: c.broker, Id: c.number}
	s := c.s
	switch s.Kind {
	case 1:
		m.Kind, m.Part, m.Offset = 19, s.Part, s.Offset
	case 2, 3, 4, 5:
		m.Kind, m.Index, m.Name, m.Pid, m.Seq, m.Offset = 23, s.Kind-1, s.Name, s.Pid, s.Seq, s.Offset
		if s.Kind != 2 {
			m.High = s.Part
		}
		if s.Kind == 4 {
			m.Ints = []int{c.n}
		}
		for id := 2; s.Kind == 2 && id <= s.Part; id++ {
			m.Ints = append(m.Ints, id)
		}
	case 6:
		m.Kind, m.Part, m.Offset = 25, s.Part, s.Offset
	case 7:
		m.Kind, m.Index, m.Name, m.High, m.Seq, m.Pid = 15, 4, s.Name, s.Part, s.Offset, s.Seq
	case 8:
		m.Kind, m.Index, m.High = 15, 6, s.Part
		m.Ints, _ = numbers(s.Text)
	case 9:
		m.Kind, m.Index, m.High = 15, 7, s.Part
	}
	return m
}

func (p *paper) call(now int, s api.Seen) (int, []api.Msg, api.Errno) {
	if s.Kind < 1 || s.Kind > 9 || len(s.Name) > 32 || s.Part > 16 {
		return 0, nil, api.ErrArg
	}
	for _, n := range []int{s.Part, s.Offset, s.Pid, s.Seq} {
		if n < 0 || n > 1000000000 {
			return 0, nil, api.ErrArg
		}
	}
	if _, ok := numbers(s.Text); s.Kind == 8 && !ok {
		return 0, nil, api.ErrArg
	}
	if len(p.lines) == 20 {
		p.told["many"]++
		return 0, nil, api.ErrMany
	}
	p.calls++
	c := &line{n: p.calls, s: s, tries: p.tries}
	p.lines = append(p.lines, c)
	return c.n, []api.Msg{p.ask(now, c)}, api.OK
}

func (p *paper) end(c *line, err api.Errno, m api.Msg) {
	i := slices.Index(p.lines, c)
	p.lines = slices.Delete(p.lines, i, i+1)
	s := api.Seen{Client: p.id, Call: c.n, Kind: c.s.Kind, Part: c.s.Part, Name: c.s.Name, Done: true, Err: err}
	if err != 0 {
		s.Offset, s.Pid, s.Seq = c.s.Offset, c.s.Pid, c.s.Seq
	} else {
		p.told[fmt.Sprint("well ", s.Kind)]++
	}
	for kind := s.Kind; err == 0 && kind > 0; kind = 0 {
		if kind == 1 || kind == 4 || kind == 6 {
			s.Offset = c.s.Offset
		}
		if kind == 5 || kind >= 7 {
			s.Offset = m.Offset
		}
		if kind == 3 || kind == 4 {
			s.Pid = c.s.Pid
		}
		if kind == 4 {
			s.Seq = c.s.Seq
		}
		if kind == 2 || kind == 3 {
			s.Seq = m.Seq
		}
		if kind == 2 {
			s.Pid = m.Pid
			for _, n := range m.Ints {
				s.Text += fmt.Sprint(",", n)
			}
			s.Text = strings.TrimPrefix(s.Text, ",")
		}
		if kind == 1 {
			s.Err = api.ErrNone
			s.Text = p.find(&s, m.Batches)
		}
	}
	p.done = append(p.done, s)
}

// find is the record at an offset.
func (p *paper) find(s *api.Seen, batches []api.Batch) string {
	for _, b := range batches {
		for i, r := range b.Records {
			if b.Base+i == s.Offset {
				s.Err = api.OK
				p.told["a record"]++
				return r.Value
			}
		}
	}
	return ""
}

// behind is the broker behind another one.
func (p *paper) behind(broker int) int {
	for i, id := range p.brokers {
		if id == broker && i+1 < len(p.brokers) {
			return p.brokers[i+1]
		}
	}
	return p.brokers[0]
}

func (p *paper) tick(now int) []api.Msg {
	var list []api.Msg
	for _, c := range slices.Clone(p.lines) {
		if c.deadline > now {
			continue
		}
		harmless := c.s.Kind == 1 || c.s.Kind == 5 || c.s.Kind == 6
		switch {
		case c.tries == 0:
			p.told["without tries"]++
			p.end(c, api.ErrLate, api.Msg{})
			continue
		case !harmless && !c.refused:
			p.told["late"]++
			p.end(c, api.ErrLate, api.Msg{})
			continue
		}
		p.told[fmt.Sprint("asked anew ", c.s.Kind)]++
		if a := p.aim(c.s); p.at(a) == c.broker {
			p.aims[a] = p.behind(c.broker)
		}
		list = append(list, p.ask(now, c))
	}
	return list
}

func (p *paper) step(now int, m api.Msg) {
	for _, c := range slices.Clone(p.lines) {
		if c.number == m.Id {
			p.answer(now, c, m)
			return
		}
	}
	p.told["of no call"]++
}

func (p *paper) answer(now int, c *line, m api.Msg) {
	kind := map[int]int{1: 20, 2: 24, 3: 24, 4: 24, 5: 24, 6: 26, 7: 16, 8: 16, 9: 16}[c.s.Kind]
	if m.From != c.broker || m.To != p.id || m.Kind != kind {
		p.told["no answer"]++
		return
	}
	switch {
	case (m.Err == 15 || m.Err == 22) && slices.Contains(p.brokers, m.Last):
		p.told["a hint"]++
		p.aims[p.aim(c.s)] = m.Last
		c.deadline = now + 1
		c.refused = true
	case m.Err == 15 || m.Err == 22:
		p.told["no hint"]++
		p.aims[p.aim(c.s)] = p.behind(c.broker)
		c.deadline = now + p.wait
		c.refused = true
	case m.Err == 19 && m.Kind == 24, m.Err == 3 && c.s.Kind == 7:
		p.told[fmt.Sprint("passing ", int(m.Err))]++
		c.deadline = now + p.wait
		c.refused = true
	default:
		p.told["ended"]++
		p.end(c, m.Err, m)
	}
}

func (p *paper) takeDone() []api.Seen {
	list := p.done
	p.done = nil
	return list
}
