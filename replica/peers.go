package replica

import (
	"slices"

	"logboom/api"
)

// peer is what a leader knows of another replica.
type peer struct {
	offset, start int // where its log ends and begins, as it asked
	seen          int // the greatest turn that it told
	up            int // when it had all that the leader has
}

func (p peer) hasOffset() int { return p.offset }

func (p peer) hasStart() int { return p.start }

func (p peer) hasSeen() int { return p.seen }

// peers are those of all brokers, by their ids; those that are no replicas are not asked.
type peers [api.MaxBrokers + 1]peer

// as is what is known of replicas when others were the replicas ahead of them: who was none begins as one that has not asked.
func (l peers) as(had, have []int, now int) peers {
	var next peers
	for _, id := range have {
		next[id] = peer{offset: none, start: none, up: now}
		if slices.Contains(had, id) {
			next[id] = l[id]
		}
	}
	return next
}

// isOther tells whether a broker is a replica, and not the leader.
func (x *Leader) isOther(id int) bool {
	return id != x.me && slices.Contains(x.part.Replicas, id)
}

// counts tells whether a replica is of the maximal set. A wish may have come true, and be known to the leader later than to others: so those that it names count already.
func (x *Leader) counts(id int) bool {
	return slices.Contains(x.part.Isr, id) || slices.Contains(x.wish, id)
}

// least is the least of a number of the leader's own and of what is asked of each other one of the maximal set.
func (x *Leader) least(own int, asked func(peer) int) int {
	for _, id := range x.part.Replicas {
		if id != x.me && x.counts(id) {
			own = min(own, asked(x.others[id]))
		}
	}
	return own
}

// advance has all be committed that all of the maximal set have, safe.
func (x *Leader) advance() {
	x.high = max(x.high, x.least(x.kept().Log().Safe(), peer.hasOffset))
}

// wanted is the in-sync set that the leader would have now; none: that which there is.
func (x *Leader) wanted(now int) []int {
	var list []int
	another := false
	for _, id := range x.part.Replicas {
		in := slices.Contains(x.part.Isr, id)
		wants := id == x.me || in && !x.isLate(now, id) || !in && x.hasAll(id)
		if wants {
			list = append(list, id)
		}
		another = another || wants != in
	}
	if !another {
		return nil
	}
	return list
}

func (x *Leader) isLate(now, id int) bool { return now-x.others[id].up >= x.lag }

// hasAll tells whether a replica has all that is committed, or may be: what an elder leader committed ends at Born at the latest.
func (x *Leader) hasAll(id int) bool {
	p := x.others[id]
	return p.offset >= x.high && p.offset >= x.born && p.start == x.start()
}
