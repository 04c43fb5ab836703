package coord_test

import (
	"slices"

	"logboom/api"
	"logboom/groups"
	"logboom/replica"
	"logboom/rpc"
	"logboom/wire"
)

// waiter is a request that waits, on paper.
type waiter struct {
	offset int
	m      api.Msg
}

// person is a member, as the paper knows it.
type person struct {
	group string
	id    int
}

type sight struct {
	who person
	at  int
}

// paper is the chapter's coordinator as plainly as it can be written, over a leader of its own: the walks hold the coordinator against it.
type paper struct {
	x              *replica.Leader
	epoch, session int
	ready          bool
	g              *groups.Groups
	done           int
	waits          []waiter
	seen           []sight
	leaving        []person
}

func newPaper(x *replica.Leader, now, session int) (*paper, api.Errno) {
	if session < 1 || session > 1000000000 {
		return nil, api.ErrArg
	}
	p := &paper{x: x, epoch: x.Part().Epoch, session: session, g: groups.New(), done: x.Store().Log().Start()}
	if _, e := p.write(now, api.Meta{Kind: 5, A: p.epoch}); e != api.OK {
		return nil, e
	}
	return p, api.OK
}

func (p *paper) write(now int, m api.Meta) (int, api.Errno) {
	s, e := wire.Meta(m)
	if e != api.OK {
		return 0, e
	}
	return p.x.Produce(now, api.Batch{Records: []api.Record{{Value: s}}})
}

func (p *paper) see(now int, who person) {
	p.seen = slices.DeleteFunc(p.seen, func(s sight) bool { return s.who == who })
	p.seen = append(p.seen, sight{who, now})
}

// everybody is all members of all groups.
func (p *paper) everybody() []person {
	var list []person
	for _, name := range p.g.Names() {
		for _, id := range p.g.Members(name) {
			list = append(list, person{name, id})
		}
	}
	return list
}

func (p *paper) answer(m api.Msg, told groups.Told) api.Msg {
	a := rpc.Answer(m, told.Err)
	a.Index = m.Index
	if told.Err == api.OK {
		a.Pid, a.Seq, a.Offset, a.Ints = told.Member, told.Gen, told.Offset, told.Parts
	}
	return a
}

func (p *paper) run(now int) []api.Msg {
	var out []api.Msg
	for {
		list, e := p.x.Read(p.done, 1000000)
		if e != api.OK || len(list) == 0 {
			return out
		}
		for _, b := range list {
			for i, r := range b.Records {
				out = append(out, p.record(now, b.Base+i, r.Value)...)
			}
			p.done = b.Base + len(b.Records)
		}
	}
}

func (p *paper) record(now, offset int, value string) []api.Msg {
	told := groups.Told{Err: api.ErrForm}
	if m, e := wire.ReadMeta(value); e == api.OK {
		told = p.g.Apply(m)
		p.note(now, m, told)
	}
	for i, w := range p.waits {
		if w.offset == offset {
			p.waits = slices.Delete(p.waits, i, i+1)
			return []api.Msg{p.answer(w.m, told)}
		}
	}
	return nil
}

func (p *paper) note(now int, m api.Meta, told groups.Told) {
	if m.Kind == 1 && told.Err == api.OK {
		p.see(now, person{m.Name, told.Member})
	}
	if m.Kind == 2 && told.Err == api.OK {
		who := person{m.Name, m.A}
		p.seen = slices.DeleteFunc(p.seen, func(s sight) bool { return s.who == who })
		p.leaving = slices.DeleteFunc(p.leaving, func(x person) bool { return x == who })
	}
	if m.Kind == 5 && m.A == p.epoch && !p.ready {
		p.ready = true
		for _, who := range p.everybody() {
			p.see(now, who)
		}
	}
}

func (p *paper) ask(now int, m api.Msg) []api.Msg {
	if m.Kind != 23 {
		return nil
	}
	refuse := func(e api.Errno) []api.Msg { return []api.Msg{p.answer(m, groups.Told{Err: e})} }
	if m.Index < 1 || m.Index > 7 || m.Index == 5 || len(m.Name) > 32 || len(m.Ints) > 16 {
		return refuse(api.ErrArg)
	}
	if !p.ready {
		return refuse(api.ErrState)
	}
	isOne := slices.Contains(p.everybody(), person{m.Name, m.Pid})
	if m.Index == 7 {
		if !isOne {
			return refuse(api.ErrMember)
		}
		if p.g.Gen(m.Name) != m.Seq {
			return refuse(api.ErrGen)
		}
		p.see(now, person{m.Name, m.Pid})
		a := p.answer(m, groups.Told{})
		a.Pid, a.Seq = m.Pid, m.Seq
		return []api.Msg{a}
	}
	n, e := p.write(now, api.Meta{Kind: m.Index, Name: m.Name, A: m.Pid, B: m.Seq, C: m.High, D: m.Offset, List: m.Ints})
	if e != api.OK {
		return refuse(e)
	}
	p.waits = append(p.waits, waiter{n, m})
	if m.Pid > 0 && isOne {
		p.see(now, person{m.Name, m.Pid})
	}
	return p.run(now)
}

func (p *paper) tick(now int) []api.Msg {
	if p.ready {
		for _, who := range p.everybody() {
			if slices.Contains(p.leaving, who) {
				continue
			}
			i := slices.IndexFunc(p.seen, func(s sight) bool { return s.who == who })
			if i == -1 || now-p.seen[i].at >= p.session {
				p.write(now, api.Meta{Kind: 2, Name: who.group, A: who.id})
				p.leaving = append(p.leaving, who)
			}
		}
	}
	return p.run(now)
}
