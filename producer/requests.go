package producer

import (
	"slices"

	"logboom/api"
	"logboom/asker"
)

// The PID's aim stands where no call's partition is.
const pidAim = 0

// pidRecord is the record of metadata that gives a PID, or an EPOCH.
const pidRecord = 8

// request is one under way: what is asked, and what comes of its end, are told by closures, be it of a call or for the PID.
type request struct {
	asker.Request
	message func() api.Msg
	end     func(err api.Errno, offset int)
}

// forCall asks for a call, in the sequences that are next.
func (p *Producer) forCall(c *call) *request {
	part := c.seen.Part
	c.seen.Pid, c.seen.PidEpoch, c.seen.Seq = p.pid, p.epoch, p.next[part]
	return &request{
		Request: p.asks.Begin(part),
		message: func() api.Msg {
			return api.Msg{Kind: api.ProduceAsk, Part: part, Batches: []api.Batch{c.batch()}}
		},
		end: func(err api.Errno, offset int) {
			if err == api.OK {
				p.next[part] = c.seen.Seq + len(c.records)
			}
			p.end(c, err, offset)
		},
	}
}

// forPid asks for a PID, or for a higher EPOCH of the one that there is.
func (p *Producer) forPid() *request {
	return &request{
		Request: p.asks.Begin(pidAim),
		message: func() api.Msg {
			return api.Msg{Kind: api.AdminAsk, Index: pidRecord, High: p.pid}
		},
		end: func(err api.Errno, told int) {
			if err != api.OK {
				p.endAll(err)
				return
			}
			p.renew(told)
		},
	}
}

// renew has sequences begin anew: by a PID, or by an EPOCH, that nothing was sent with yet.
func (p *Producer) renew(told int) {
	if p.pid == 0 {
		p.pid, p.epoch = told, 0
	} else {
		p.epoch = told
	}
	clear(p.next[:])
	p.fresh = true
}

// each hands all requests that there are now, in their order, to what is done with each.
func (p *Producer) each(do func(r *request)) {
	for _, r := range slices.Clone(p.requests) {
		do(r)
	}
}

// pump asks for what may be asked for now.
func (p *Producer) pump(now int) []api.Msg {
	var l []api.Msg
	if p.fresh {
		l = p.pumpCalls(now)
	}
	if !p.fresh && len(p.requests) == 0 && len(p.open) > 0 {
		l = append(l, p.askFirst(now, p.forPid()))
	}
	return l
}

// pumpCalls asks for one call of each partition that has none under way, as long as sequences are left.
func (p *Producer) pumpCalls(now int) []api.Msg {
	var l []api.Msg
	for _, c := range p.open {
		if p.isBusy(c.seen.Part) {
			continue
		}
		if p.next[c.seen.Part]+len(c.records)-1 > api.MaxSeq {
			p.fresh = false
			break
		}
		l = append(l, p.askFirst(now, p.forCall(c)))
	}
	return l
}

func (p *Producer) isBusy(aim int) bool {
	return slices.ContainsFunc(p.requests, func(r *request) bool { return r.Aim() == aim })
}

// askFirst asks for what is not under way yet.
func (p *Producer) askFirst(now int, r *request) api.Msg {
	p.requests = append(p.requests, r)
	return p.ask(now, r)
}

func (p *Producer) ask(now int, r *request) api.Msg {
	return p.asks.Ask(now, &r.Request, r.message())
}

// take takes a request's answer. Some errors pass by themselves: what had one is asked anew when its time is up.
func (p *Producer) take(now int, r *request, m api.Msg) {
	switch m.Err {
	case api.ErrInsync, api.ErrFull, api.ErrMany, api.ErrState, api.ErrNewer:
	case api.ErrLeader:
		p.asks.TurnBy(now, &r.Request, m.Last)
	default:
		p.close(r, m.Err, m.Offset)
	}
}

// close has a request be under way no more, and does what comes of its end.
func (p *Producer) close(r *request, err api.Errno, offset int) {
	p.requests = slices.DeleteFunc(p.requests, func(x *request) bool { return x == r })
	r.end(err, offset)
}
