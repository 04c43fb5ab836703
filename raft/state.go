package raft

import (
	"logboom/api"
	"logboom/raftlog"
)

// kept is the node's log; one that New did not make has a log without a disk, in which nothing stands.
func (n *Node) kept() *raftlog.Log {
	if n.log == nil {
		n.log = new(raftlog.Log)
	}
	return n.log
}

// distance is a number that is not below 0, whatever was drawn.
func distance(draw int) int {
	if draw < 0 {
		return ^draw
	}
	return draw
}

// waitAnew puts the deadline off, by a draw, so that not all voters stand at once.
func (n *Node) waitAnew(now int) { n.deadline = now + n.wait + n.draw%n.wait }

// follow has the node be a follower of a leader; 0: it does not know one.
func (n *Node) follow(id int) { n.role, n.leader = following, id }

// majority is how few voters are more than half of all.
func (n *Node) majority() int { return len(n.voters)/2 + 1 }

// termAt is the term at an index; -1: the log does not say. (Of 0 it is 0: a log that has no snapshot yet tells one of that index and that term.)
func (n *Node) termAt(index int) int {
	if x, ok := n.log.At(index); ok {
		return x.Term
	}
	if snap, term, _ := n.log.Snapshot(); snap == index {
		return term
	}
	return -1
}

// end is the index of the log's end.
func (n *Node) end() int {
	index, _ := n.log.Last()
	return index
}

// add puts an entry of the term behind the end: its index.
func (n *Node) add(data string) (int, api.Errno) {
	end := n.end()
	return end + 1, n.log.Put(end, []api.Entry{{Term: n.log.Term(), Index: end + 1, Data: data}})
}
