package reassign

import (
	"slices"

	"logboom/api"
)

// brokers is a list of brokers' ids, or what was handed in as one.
type brokers []int

// isBroker tells whether a number may be a broker's id.
func isBroker(id int) bool { return isUpTo(id, api.MaxBrokers) }

func (l brokers) has(id int) bool { return slices.Contains(l, id) }

func (l brokers) lacks(id int) bool { return !l.has(id) }

func (l brokers) copied() brokers { return slices.Clone(l) }

// areRight tells whether all are ids, none twice. It ends at the first that is not so: a list may be of any length.
func (l brokers) areRight() bool {
	var seen [api.MaxBrokers + 1]bool
	for _, id := range l {
		if !isBroker(id) || seen[id] {
			return false
		}
		seen[id] = true
	}
	return true
}

// those are the ones of a list, in its order, of which it is so when another list is asked about them.
func those(list brokers, isSo func(brokers, int) bool, other brokers) brokers {
	var out brokers
	for _, id := range list {
		if isSo(other, id) {
			out = append(out, id)
		}
	}
	return out
}

// areAll tells whether it is so of each of a list when another list is asked about them.
func areAll(list brokers, isSo func(brokers, int) bool, other brokers) bool {
	for _, id := range list {
		if !isSo(other, id) {
			return false
		}
	}
	return true
}
