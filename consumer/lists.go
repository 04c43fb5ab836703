package consumer

import (
	"strconv"
	"strings"

	"logboom/api"
)

// A move is to so many replicas at most, and their ids have so many digits.
const (
	maxList   = api.MaxBrokers
	maxDigits = 3
)

// list is a list as a text.
func list(ids []int) string {
	var s strings.Builder
	for i, id := range ids {
		if i > 0 {
			s.WriteByte(',')
		}
		s.WriteString(strconv.Itoa(id))
	}
	return s.String()
}

// readList is the list that a text is; false: it is none that a move may be asked with.
func readList(text string) ([]int, bool) {
	if len(text) > maxList*(maxDigits+1) {
		return nil, false
	}
	var ids []int
	for _, s := range strings.Split(text, ",") {
		if !isId(s) {
			return nil, false
		}
		id, _ := strconv.Atoi(s)
		ids = append(ids, id)
	}
	return ids, len(ids) <= maxList
}

// isId tells whether a text is an id, with as many digits as it needs.
func isId(s string) bool {
	if len(s) == 0 || len(s) > maxDigits || s[0] == '0' && len(s) > 1 {
		return false
	}
	for i := range len(s) {
		if s[i] < '0' || s[i] > '9' {
			return false
		}
	}
	return true
}
