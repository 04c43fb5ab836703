package reassign

import "logboom/api"

func isUpTo(n, most int) bool { return n >= 1 && n <= most }

func areNumbersRight(p api.Part) bool {
	return isUpTo(p.Id, api.MaxParts) && isUpTo(p.Min, api.MaxReplicas) && isUpTo(p.Epoch, api.MaxOffset) && isUpTo(p.Version, api.MaxOffset)
}

// areListsRight tells whether the lists may stand beside each other. (What is in sync is some of the replicas, so there are some of these, too.)
func areListsRight(p api.Part) bool {
	return isOfEach(p, brokers.areRight) && len(p.Isr) > 0 &&
		areAll(p.Isr, brokers.has, p.Replicas) &&
		areAll(p.Adding, brokers.has, p.Replicas) &&
		areAll(p.Removing, brokers.has, p.Replicas) &&
		areAll(p.Removing, brokers.lacks, p.Adding) &&
		len(targetsOf(p)) > 0
}

// isOfEach tells whether something is so of each of the four lists.
func isOfEach(p api.Part, isSo func(brokers) bool) bool {
	return isSo(p.Isr) && isSo(p.Replicas) && isSo(p.Adding) && isSo(p.Removing)
}

// withEach is the state with what becomes of each of the four lists.
func withEach(p api.Part, becomes func(brokers) brokers) api.Part {
	p.Isr, p.Replicas = becomes(p.Isr), becomes(p.Replicas)
	p.Adding, p.Removing = becomes(p.Adding), becomes(p.Removing)
	return p
}

func isMoving(p api.Part) bool { return len(p.Adding) > 0 || len(p.Removing) > 0 }

// targetsOf are the replicas that stay when a move is finished.
func targetsOf(p api.Part) brokers { return those(p.Replicas, brokers.lacks, p.Removing) }

// mayBeTargets tells whether a move to them may be asked for.
func mayBeTargets(list brokers) bool {
	return isUpTo(len(list), api.MaxReplicas) && list.areRight()
}

// mayBeInSync tells whether a leader may have its in-sync set be this one: those that come in must be up.
func mayBeInSync(p api.Part, list, up brokers) bool {
	return list.areRight() && list.has(p.Leader) &&
		areAll(list, brokers.has, p.Replicas) &&
		areAll(those(list, brokers.lacks, p.Isr), brokers.has, up)
}

// heir is who leads when the leader gives way among those that are up; 0: nobody can.
func heir(p api.Part, up brokers) int {
	able := those(those(p.Replicas, brokers.has, p.Isr), brokers.has, up)
	able = those(able, brokers.lacks, brokers{p.Leader})
	if len(able) == 0 {
		return 0
	}
	return able[0]
}

// heldAgainst tells why an epoch and a version are not the state's.
func heldAgainst(p api.Part, epoch, version int) api.Errno {
	switch {
	case epoch < p.Epoch || epoch == p.Epoch && version < p.Version:
		return api.ErrFenced
	case epoch > p.Epoch || version > p.Version:
		return api.ErrNewer
	}
	return api.OK
}

// changed is the state as a change makes it, with that leader: another one than it had begins an epoch.
func changed(p api.Part, leader int) (api.Part, api.Errno) {
	if leader != p.Leader {
		p.Leader = leader
		p.Epoch++
	}
	p.Version++
	if p.Epoch > api.MaxOffset || p.Version > api.MaxOffset {
		return api.Part{}, api.ErrOver
	}
	return p, api.OK
}

// settled is the state without a move and without some replicas; if the leader is one of them, it gives way.
func settled(p api.Part, gone, up brokers) (api.Part, api.Errno) {
	leader := p.Leader
	p.Replicas = those(p.Replicas, brokers.lacks, gone)
	p.Isr = those(p.Isr, brokers.lacks, gone)
	p.Adding, p.Removing = nil, nil
	if gone.has(leader) {
		leader = heir(p, up)
	}
	return changed(p, leader)
}
