package broker

import (
	"logboom/api"
	"logboom/rpc"
)

// kind is what a kind of message does to the broker.
func (b *Broker) kind(k int) func(int, api.Msg) []api.Msg {
	switch k {
	case api.VoteAsk, api.VoteTell, api.AppendAsk, api.AppendTell, api.SnapAsk, api.SnapTell:
		return b.node.Step
	case api.FetchAsk:
		return b.fetchAsk
	case api.FetchTell:
		return b.fetchTell
	case api.BeatAsk, api.AlterAsk, api.AdminAsk:
		return b.ofController(k)
	case api.ProduceAsk:
		return b.produceAsk
	case api.ReadAsk:
		return b.readAsk
	case api.DeleteAsk:
		return b.deleteAsk
	case api.GroupAsk:
		return b.groupAsk
	case api.InfoAsk:
		return b.infoAsk
	}
	return b.passOver
}

// passOver is for what nobody asks a broker.
func (b *Broker) passOver(int, api.Msg) []api.Msg { return nil }

// refuse is an answer with an error.
func refuse(m api.Msg, e api.Errno) []api.Msg { return []api.Msg{rpc.Answer(m, e)} }

// refer refuses what another broker is to be asked; 0: who that is is not known.
func refer(m api.Msg, e api.Errno, to int) []api.Msg {
	a := rpc.Answer(m, e)
	a.Last = to
	return []api.Msg{a}
}

// leaderOf is who leads a partition, as far as the broker knows; 0: nobody.
func (b *Broker) leaderOf(part int) int {
	p, _ := b.image.Part(part)
	return p.Leader
}

func (b *Broker) fetchAsk(now int, m api.Msg) []api.Msg {
	x := b.homes.of(m.Part).leader
	if x == nil {
		return refuse(m, api.ErrLeader)
	}
	return []api.Msg{x.Fetch(now, m)}
}

// fetchTell has a follower take an answer. If it took more than that there is nothing new, it asks again soon.
func (b *Broker) fetchTell(now int, m api.Msg) []api.Msg {
	x := b.homes.of(m.Part).follower
	if x == nil {
		return nil
	}
	e := x.Take(m)
	if e != api.ErrState && (m.Err != api.OK || len(m.Batches) > 0) {
		b.homes[m.Part].eager = true
	}
	return nil
}

func (b *Broker) groupAsk(now int, m api.Msg) []api.Msg {
	if b.coord == nil {
		return refer(m, api.ErrCoord, b.leaderOf(api.Offsets))
	}
	return b.coord.Ask(now, m)
}

// infoAsk tells what the image does of a topic, or, without a name, of a partition.
func (b *Broker) infoAsk(now int, m api.Msg) []api.Msg {
	a := rpc.Answer(m, api.OK)
	if m.Name != "" {
		a.Ints = b.image.Find(m.Name)
		if len(a.Ints) == 0 {
			return refuse(m, api.ErrNone)
		}
		return []api.Msg{a}
	}
	p, ok := b.image.Part(m.Part)
	if !ok {
		return refuse(m, api.ErrNone)
	}
	a.Epoch, a.Last, a.Offset, a.Ints = p.Epoch, p.Leader, p.Version, p.Isr
	return []api.Msg{a}
}
