package broker

import (
	"slices"

	"logboom/api"
)

// mostWait is the longest election time.
const mostWait = 1000000

// Of a segment's bytes.
const (
	leastSegment = 256
	mostSegment  = 1000000
)

func isIn(n, least, most int) bool { return n >= least && n <= most }

func isTicks(n int) bool { return isIn(n, 1, api.MaxTick) }

// isBroker tells whether a number may be a broker's id.
func isBroker(id int) bool { return isIn(id, 1, api.MaxBrokers) }

// areBrokers tells whether ids may be those of all brokers: some, rising.
func areBrokers(ids []int) bool {
	ahead := 0
	for _, id := range ids {
		if id <= ahead || !isBroker(id) {
			return false
		}
		ahead = id
	}
	return len(ids) > 0
}

func has(list []int, id int) bool { return slices.Contains(list, id) }
