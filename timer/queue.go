package timer

import "cmp"

// timer has its key beside its tick, for keys tell which of one tick's is first.
type timer struct{ key, at int }

// queue is a heap.Interface: timers[0] is due first. It knows where each key's timer stands, so that one amid the others can be moved or taken out.
type queue struct {
	timers []timer
	places map[int]int
}

func (q *queue) Len() int { return len(q.timers) }

func (q *queue) Less(i, j int) bool {
	a, b := q.timers[i], q.timers[j]
	return cmp.Or(cmp.Compare(a.at, b.at), cmp.Compare(a.key, b.key)) < 0
}

func (q *queue) Swap(i, j int) {
	q.timers[i], q.timers[j] = q.timers[j], q.timers[i]
	q.places[q.timers[i].key] = i
	q.places[q.timers[j].key] = j
}

// Push also serves Timers that New did not make, which have no map yet.
func (q *queue) Push(x any) {
	if q.places == nil {
		q.places = map[int]int{}
	}
	added := x.(timer)
	q.places[added.key] = len(q.timers)
	q.timers = append(q.timers, added)
}

func (q *queue) Pop() any {
	last := len(q.timers) - 1
	gone := q.timers[last]
	q.timers = q.timers[:last]
	delete(q.places, gone.key)
	return gone
}
