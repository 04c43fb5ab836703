package asker

import (
	"logboom/api"
	"logboom/rpc"
)

// Request is something that is asked for, again and again.
type Request struct {
	aim             int
	tries, deadline int
	sent            api.Msg // as it was last, without its lists
}

// Begin is a request of which nothing was sent yet, with all tries.
func (a *Asker) Begin(aim int) Request { return Request{aim: aim, tries: a.tries} }

// Ask is a message as it is to be sent, to whom the aim tells, by a number of its own: what was sent ahead is answered no more.
func (a *Asker) Ask(now int, r *Request, m api.Msg) api.Msg {
	a.number = a.number%api.MaxOffset + 1
	r.tries--
	a.Wait(now, r)
	m.From, m.To, m.Id = a.id, a.aims[r.aim], a.number
	r.sent = api.Msg{Kind: m.Kind, From: m.From, To: m.To, Id: m.Id}
	return m
}

// Wait has a request wait for its answer from now on.
func (a *Asker) Wait(now int, r *Request) { r.deadline = now + a.wait }

// Aim is what the request has for it.
func (r *Request) Aim() int { return r.aim }

// IsDue tells whether its time is up.
func (r *Request) IsDue(now int) bool { return r.deadline <= now }

// HasTries tells whether it may be asked anew.
func (r *Request) HasTries() bool { return r.tries > 0 }

// IsAnswer tells whether a message is the answer to what was sent last.
func (r *Request) IsAnswer(m api.Msg) bool {
	a := rpc.Answer(r.sent, api.OK)
	return m.Id == a.Id && m.From == a.From && m.To == a.To && m.Kind == a.Kind
}
