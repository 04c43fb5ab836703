package producer

import (
	"slices"

	"logboom/api"
)

// sendKind is that of a call of Send in a history, as the layers behind count them.
const sendKind = 10

// call is one that is open: what will be told of it, and what it sends.
type call struct {
	seen    api.Seen
	records []api.Record
}

// begin opens a call.
func (p *Producer) begin(part int, l []api.Record) {
	p.calls++
	seen := api.Seen{Client: p.asks.Id(), Call: p.calls, Kind: sendKind, Part: part, Text: l[0].Value}
	p.open = append(p.open, &call{seen: seen, records: slices.Clone(l)})
}

// batch is what is asked to be written, in the sequences that the call has.
func (c *call) batch() api.Batch {
	return api.Batch{Pid: c.seen.Pid, PidEpoch: c.seen.PidEpoch, Seq: c.seen.Seq, Records: slices.Clone(c.records)}
}

// end ends a call; behind one that failed nobody knows which sequences stand in the log.
func (p *Producer) end(c *call, err api.Errno, offset int) {
	p.open = slices.DeleteFunc(p.open, func(x *call) bool { return x == c })
	c.seen.Err, c.seen.Done = err, true
	if err == api.OK {
		c.seen.Offset = offset
	} else {
		p.fresh = false
	}
	p.ended = append(p.ended, c.seen)
}

// endAll ends all calls with an error.
func (p *Producer) endAll(err api.Errno) {
	for _, c := range slices.Clone(p.open) {
		p.end(c, err, 0)
	}
}
