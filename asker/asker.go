// Package asker: what a producer and a consumer have in common: whom they ask, by which numbers, how often, and how long they wait.
package asker

import (
	"slices"

	"logboom/api"
)

// Asker is a client, as it asks brokers. Whom it asks an aim tells: there are several, for what different brokers answer.
type Asker struct {
	id, wait, tries int
	brokers         []int
	number          int   // of the last request
	aims            []int // brokers
}

// Bounds of a client's id, of its tries, of its open calls.
const (
	firstId, lastId = 101, 999
	maxTries        = 1000
	maxOpen         = 20
)

// New makes one: its id among clients, the brokers that there are, how long it waits for an answer, how often it tries, and how many aims it has, all at the first broker.
func New(id int, brokers []int, wait, tries, aims int) (Asker, api.Errno) {
	if id < firstId || id > lastId || !areBrokers(brokers) || wait < 1 || wait > api.MaxTick || tries < 1 || tries > maxTries {
		return Asker{}, api.ErrArg
	}
	return Asker{id: id, wait: wait, tries: tries, brokers: slices.Clone(brokers), aims: slices.Repeat(brokers[:1], aims)}, api.OK
}

func areBrokers(ids []int) bool {
	last := 0
	for _, id := range ids {
		if id <= last || id > api.MaxBrokers {
			return false
		}
		last = id
	}
	return len(ids) > 0
}

// Id is the client's.
func (a *Asker) Id() int { return a.id }

// Room is how many calls may be open: one that New did not make has nobody to ask.
func (a *Asker) Room() int {
	if len(a.brokers) == 0 {
		return 0
	}
	return maxOpen
}

// Turn aims at another broker than was asked, if no answer has done so.
func (a *Asker) Turn(r *Request) {
	if a.aims[r.aim] == r.sent.To {
		a.aims[r.aim] = a.behind(r.sent.To)
	}
}

// TurnBy aims at the broker of a hint, to be asked soon, or, without one, at another than was asked.
func (a *Asker) TurnBy(now int, r *Request, hint int) {
	if slices.Contains(a.brokers, hint) {
		a.aims[r.aim], r.deadline = hint, now+1
	} else {
		a.aims[r.aim] = a.behind(r.sent.To)
		a.Wait(now, r)
	}
}

// behind is the broker behind another one, round and round.
func (a *Asker) behind(broker int) int {
	return a.brokers[(slices.Index(a.brokers, broker)+1)%len(a.brokers)]
}
