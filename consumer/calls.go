package consumer

import (
	"slices"

	"logboom/api"
	"logboom/asker"
)

// call is one that is open: its request, and what was handed in.
type call struct {
	asker.Request
	seen      api.Seen
	isRefused bool // by the broker that was asked last: nothing was done
}

// begin opens a call.
func (c *Consumer) begin(s api.Seen) *call {
	c.calls++
	x := &call{
		Request: c.asks.Begin(aim(s)),
		seen:    api.Seen{Client: c.asks.Id(), Call: c.calls, Kind: s.Kind, Part: s.Part, Offset: s.Offset, Pid: s.Pid, Seq: s.Seq, Name: s.Name},
	}
	if s.Kind == Move {
		x.seen.Text = s.Text
	}
	c.open = append(c.open, x)
	return x
}

func (c *Consumer) ask(now int, x *call) api.Msg {
	x.isRefused = false
	return c.asks.Ask(now, &x.Request, message(x.seen))
}

// mayBeAsked tells whether a call may be asked anew: what could change something twice only if it is known that nothing was done.
func (x *call) mayBeAsked() bool {
	return x.HasTries() && (isHarmless(x.seen.Kind) || x.isRefused)
}

// take takes a call's answer.
func (c *Consumer) take(now int, x *call, m api.Msg) {
	switch {
	case m.Err == api.ErrLeader || m.Err == api.ErrCoord:
		x.isRefused = true
		c.asks.TurnBy(now, &x.Request, m.Last)
	case m.Err == api.ErrState && isOfGroup(x.seen.Kind), m.Err == api.ErrMany && x.seen.Kind == Create:
		x.isRefused = true
		c.asks.Wait(now, &x.Request)
	default:
		c.end(x, m)
	}
}

// end ends a call, with what an answer says.
func (c *Consumer) end(x *call, m api.Msg) {
	c.open = slices.DeleteFunc(c.open, func(y *call) bool { return y == x })
	c.ended = append(c.ended, told(x.seen, m))
}

// told is a call as it returns.
func told(s api.Seen, m api.Msg) api.Seen {
	t := api.Seen{Client: s.Client, Call: s.Call, Kind: s.Kind, Part: s.Part, Name: s.Name, Err: m.Err, Done: true}
	if m.Err != api.OK {
		t.Offset, t.Pid, t.Seq = s.Offset, s.Pid, s.Seq
		return t
	}
	switch s.Kind {
	case Read:
		t.Offset = s.Offset
		t.Text, t.Err = valueAt(m.Batches, s.Offset)
	case Join:
		t.Pid, t.Seq, t.Text = m.Pid, m.Seq, list(m.Ints)
	case Leave:
		t.Pid, t.Seq = s.Pid, m.Seq
	case Commit:
		t.Pid, t.Seq, t.Offset = s.Pid, s.Seq, s.Offset
	case Delete:
		t.Offset = s.Offset
	default:
		t.Offset = m.Offset
	}
	return t
}

// valueAt is the value of the record at an offset, if one of some batches has it.
func valueAt(batches []api.Batch, offset int) (string, api.Errno) {
	for _, b := range batches {
		if i := offset - b.Base; i >= 0 && i < len(b.Records) {
			return b.Records[i].Value, api.OK
		}
	}
	return "", api.ErrNone
}
