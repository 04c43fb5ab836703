package raft

import (
	"slices"

	"logboom/api"
)

// mostEntries is how many entries one message has at most.
const mostEntries = 16

// stand asks all others for their votes in a new term; the only voter leads at once.
func (n *Node) stand(now int) []api.Msg {
	n.waitAnew(now)
	if n.log.Turn(n.log.Term()+1, n.id) != api.OK {
		return nil
	}
	n.role, n.leader = standing, 0
	n.peers = peers{}
	n.peers[n.id].voted = true
	if n.isElected() {
		return n.lead(now)
	}
	return n.toAll(n.voteOf)
}

func (n *Node) isElected() bool {
	votes := 0
	for _, x := range n.peers {
		if x.voted {
			votes++
		}
	}
	return votes >= n.majority()
}

// lead has the node lead. What others have it does not know yet: they are sent what stands behind its end first, an entry of its own term, without which nothing of older terms is committed.
func (n *Node) lead(now int) []api.Msg {
	n.role, n.leader = leading, n.id
	next := n.end() + 1
	for i := range n.peers {
		n.peers[i] = peer{next: next}
	}
	if _, e := n.add(""); e != api.OK {
		n.follow(0)
		return nil
	}
	n.advance()
	return n.sendAll(now)
}

// remind has the others know that the node still leads, each time that its beat is due.
func (n *Node) remind(now int) []api.Msg {
	if now < n.beat {
		return nil
	}
	return n.sendAll(now)
}

func (n *Node) sendAll(now int) []api.Msg {
	n.beat = now + max(n.wait/4, 1)
	return n.toAll(n.entriesTo)
}

// toAll is a message to each other voter.
func (n *Node) toAll(message func(int) api.Msg) []api.Msg {
	var list []api.Msg
	for _, v := range n.voters {
		if v != n.id {
			list = append(list, message(v))
		}
	}
	return list
}

// voteOf asks a voter for its vote.
func (n *Node) voteOf(v int) api.Msg {
	index, term := n.log.Last()
	return api.Msg{Kind: api.VoteAsk, From: n.id, To: v, Term: n.log.Term(), Index: index, Last: term}
}

// entriesTo sends a voter the entries that it is to have next, or the snapshot, if they are gone.
func (n *Node) entriesTo(v int) api.Msg {
	m := api.Msg{From: n.id, To: v, Term: n.log.Term()}
	next := n.peers[v].next
	if next < n.log.First() {
		m.Kind = api.SnapAsk
		m.Index, m.Last, m.Text = n.log.Snapshot()
		return m
	}
	m.Kind = api.AppendAsk
	m.Index, m.Last, m.High = next-1, n.termAt(next-1), n.commit
	m.Entries = n.log.From(next, mostEntries)
	return m
}

// advance commits what a majority have. Only entries of the node's own term are counted: an older one may be had by a majority, and yet be put away by a later leader.
func (n *Node) advance() {
	index := n.common()
	if index > n.commit && n.termAt(index) == n.log.Term() {
		n.commit = index
	}
}

// common is the greatest index that a majority have. Terms do not fall, and the last entry of a leader has its term: so if this index has another one, all ahead of it have, too.
func (n *Node) common() int {
	var have []int
	for _, v := range n.voters {
		if v == n.id {
			have = append(have, n.end())
		} else {
			have = append(have, n.peers[v].match)
		}
	}
	slices.Sort(have)
	return have[len(have)-n.majority()]
}
