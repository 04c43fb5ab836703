package raft

import "logboom/api"

// kind is what a kind of message does to the node; nil: it is none of Raft's.
func (n *Node) kind(k int) func(int, api.Msg) []api.Msg {
	switch k {
	case api.VoteAsk:
		return n.voteAsk
	case api.VoteTell:
		return n.voteTell
	case api.AppendAsk:
		return n.appendAsk
	case api.AppendTell:
		return n.appendTell
	case api.SnapAsk:
		return n.snapAsk
	case api.SnapTell:
		return n.snapTell
	}
	return nil
}

// inTerm does what a message does if it is one of the term: a later term is the node's from now on, an older one does nothing.
func (n *Node) inTerm(now int, m api.Msg, does func(int, api.Msg) []api.Msg) []api.Msg {
	term := n.log.Term()
	if m.Term < term {
		return n.fence(m)
	}
	if m.Term > term {
		if n.log.Turn(m.Term, 0) != api.OK {
			return nil
		}
		n.follow(0)
	}
	return does(now, m)
}

// fence refuses a message of an older term: only asks wait for an answer.
func (n *Node) fence(m api.Msg) []api.Msg {
	switch m.Kind {
	case api.VoteAsk, api.AppendAsk, api.SnapAsk:
		return n.tell(m, api.ErrFenced, 0)
	}
	return nil
}

// tell answers an ask.
func (n *Node) tell(m api.Msg, e api.Errno, index int) []api.Msg {
	return []api.Msg{{Kind: m.Kind + 1, From: n.id, To: m.From, Term: n.log.Term(), Err: e, Index: index}}
}

// voteAsk gives the vote to a candidate whose log lacks nothing of the node's; Turn refuses a second vote in one term.
func (n *Node) voteAsk(now int, m api.Msg) []api.Msg {
	if n.role == leading || n.isAheadOf(m) || n.log.Turn(m.Term, m.From) != api.OK {
		return n.tell(m, api.ErrState, 0)
	}
	n.waitAnew(now)
	return n.tell(m, api.OK, 0)
}

// isAheadOf tells whether the node's end is one that the end of a message lies behind.
func (n *Node) isAheadOf(m api.Msg) bool {
	index, term := n.log.Last()
	return term > m.Last || term == m.Last && index > m.Index
}

func (n *Node) voteTell(now int, m api.Msg) []api.Msg {
	if n.role != standing || m.Err != api.OK {
		return nil
	}
	n.peers[m.From].voted = true
	if !n.isElected() {
		return nil
	}
	return n.lead(now)
}

func (n *Node) appendAsk(now int, m api.Msg) []api.Msg {
	if n.role == leading {
		return nil
	}
	n.follow(m.From)
	n.waitAnew(now)
	if !n.joins(m) {
		return n.tell(m, api.ErrOrder, max(min(n.end(), m.Index-1), 0))
	}
	if e := n.log.Put(m.Index, m.Entries); e != api.OK {
		return n.tell(m, e, 0)
	}
	last := m.Index + len(m.Entries)
	n.commit = max(n.commit, min(last, m.High))
	return n.tell(m, api.OK, last)
}

// joins tells whether the log has what the entries of a message stand behind. What lies in the snapshot is committed: every leader has it.
func (n *Node) joins(m api.Msg) bool {
	if m.Index < 0 || m.Index > n.end() {
		return false
	}
	return m.Index < n.log.First()-1 || n.termAt(m.Index) == m.Last
}

func (n *Node) appendTell(now int, m api.Msg) []api.Msg {
	if n.role != leading {
		return nil
	}
	switch m.Err {
	case api.OK:
		return n.matched(m)
	case api.ErrOrder:
		return n.stepBack(m)
	}
	return nil
}

// matched notes how far a voter's entries are the node's, and sends it what it still lacks.
func (n *Node) matched(m api.Msg) []api.Msg {
	x := &n.peers[m.From]
	x.match = max(x.match, min(m.Index, n.end()))
	x.next = x.match + 1
	n.advance()
	if x.next > n.end() {
		return nil
	}
	return []api.Msg{n.entriesTo(m.From)}
}

// stepBack sends a voter entries from further ahead, as it lacks what those stood behind that it was sent.
func (n *Node) stepBack(m api.Msg) []api.Msg {
	x := &n.peers[m.From]
	// A match is never below 0, so what lies above it is at least 1.
	x.next = max(min(x.next-1, m.Index+1), x.match+1)
	return []api.Msg{n.entriesTo(m.From)}
}

func (n *Node) snapAsk(now int, m api.Msg) []api.Msg {
	if n.role == leading {
		return nil
	}
	n.follow(m.From)
	n.waitAnew(now)
	if m.Index > n.commit {
		if e := n.log.Snap(m.Index, m.Last, m.Text); e != api.OK {
			return n.tell(m, e, 0)
		}
		n.commit = m.Index
	}
	return n.tell(m, api.OK, m.Index)
}

func (n *Node) snapTell(now int, m api.Msg) []api.Msg {
	if n.role != leading || m.Err != api.OK {
		return nil
	}
	return n.matched(m)
}
