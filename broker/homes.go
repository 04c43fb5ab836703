package broker

import (
	"strconv"

	"logboom/api"
	"logboom/coord"
	"logboom/replica"
	"logboom/store"
)

// What the names of the files begin with: of the node's, of a partition's (ahead of its id).
const (
	raftFiles = "raft"
	partFiles = "part-"
)

// none is the high watermark of what has none.
const none = -1

// home is what a broker has of a partition: what was kept, once it was a replica; and a leader, or a follower, or neither.
type home struct {
	store    *store.Store
	leader   *replica.Leader
	follower *replica.Follower
	asked    int  // when the follower asked last
	eager    bool // it is not to wait until it asks again: it never did, or there may be more
}

// homes stand at their partitions' ids.
type homes [api.MaxParts + 1]home

// of is that of a partition, whatever number names it: of what is none the broker has nothing.
func (l *homes) of(part int) home {
	if !isIn(part, 1, api.MaxParts) {
		return home{}
	}
	return l[part]
}

// opens tells whether there is a store: it is opened when it is needed first.
func (b *Broker) opens(part int) bool {
	h := &b.homes[part]
	if h.store == nil {
		// An error gives none.
		h.store, _ = store.Open(b.disk, partFiles+strconv.Itoa(part), b.config.Segment)
	}
	return h.store != nil
}

// reconcile has the broker lead and follow as the image tells. What was so in an elder life of it tells nothing of this one.
func (b *Broker) reconcile(now int) {
	life, _ := b.image.Life(b.id)
	isUp := has(b.image.Up(), b.id)
	for _, p := range b.image.Parts() {
		switch {
		case p.Leader == b.id && life == b.life && isUp:
			b.lead(now, p)
		case p.Leader != b.id && life == b.life && has(p.Replicas, b.id):
			b.follow(p)
		default:
			b.homes[p.Id].leader, b.homes[p.Id].follower = nil, nil
		}
	}
	b.coordinate(now)
}

// lead has a leader know its state; one of another epoch is another leader.
func (b *Broker) lead(now int, p api.Part) {
	h := &b.homes[p.Id]
	if h.leader != nil && h.leader.Part().Epoch == p.Epoch {
		// An error is passed over: a leader stays with the newest state that it knew.
		h.leader.Learn(p, now)
		return
	}
	h.leader, h.follower = nil, nil
	if b.opens(p.Id) {
		// An error gives none.
		h.leader, _ = replica.Lead(b.id, h.store, p, now, b.config.Lag)
	}
}

// follow has a follower ask its leader; one of another epoch, or of another leader, is another follower.
func (b *Broker) follow(p api.Part) {
	h := &b.homes[p.Id]
	h.leader = nil
	if h.follower != nil {
		if was := h.follower.Part(); was.Epoch == p.Epoch && was.Leader == p.Leader {
			return
		}
	}
	h.follower = nil
	if b.opens(p.Id) {
		b.made++
		// An error gives none.
		h.follower, _ = replica.Follow(b.id, h.store, p, b.life, b.made)
		h.eager = true
	}
}

// coordinate has there be a coordinator over the leader of the offsets' partition, a new one over each new leader.
func (b *Broker) coordinate(now int) {
	x := b.homes[api.Offsets].leader
	if x == nil {
		b.coord, b.over = nil, nil
		return
	}
	if b.coord != nil && b.over == x {
		return
	}
	// An error gives none; then it is tried again when more was applied.
	b.coord, _ = coord.New(x, now, b.config.Session)
	b.over = x
}

// fetches is what followers ask.
func (b *Broker) fetches(now int) []api.Msg {
	var list []api.Msg
	for id := range b.homes {
		h := &b.homes[id]
		if h.follower == nil || h.follower.Part().Leader == 0 {
			continue
		}
		if h.eager || now-h.asked >= b.config.Beat {
			list = append(list, h.follower.Ask())
			h.asked, h.eager = now, false
		}
	}
	return list
}

// saveHighs keeps the high watermarks. An error is passed over: a lower one is kept, and leaders tell it again.
func (b *Broker) saveHighs() {
	for _, h := range b.homes {
		if h.leader != nil {
			h.store.Log().Save(h.leader.High())
		}
	}
	for _, h := range b.homes {
		if h.follower != nil {
			h.store.Log().Save(h.follower.High())
		}
	}
}
