package wire

import (
	"strings"

	"logboom/api"
)

func appendInt(to []byte, n int) []byte {
	z := folded(n)
	for range longestInt - 1 {
		if z < 128 {
			break
		}
		to = append(to, byte(z)|128)
		z >>= 7
	}
	return append(to, byte(z))
}

func appendInts(to []byte, list []int) []byte {
	for _, n := range list {
		to = appendInt(to, n)
	}
	return to
}

func appendText(to []byte, text string) []byte {
	return append(appendInt(to, len(text)), text...)
}

// four is a number in four bytes, the highest first.
func four(n int) string {
	return string([]byte{byte(n >> 24), byte(n >> 16), byte(n >> 8), byte(n)})
}

func readFour(b string) int {
	n := 0
	for i := range 4 {
		n = n<<8 | int(b[i])
	}
	return n
}

// reader takes a body apart, from its front on. What was wrong once stays so: then nothing is left to be read.
type reader struct {
	rest  string
	wrong bool
}

func (r *reader) spoil() { *r = reader{wrong: true} }

// done tells whether all was right, and nothing is left.
func (r *reader) done() bool { return !r.wrong && r.rest == "" }

func (r *reader) number() int {
	n, size, e := ReadInt(r.rest)
	if e != api.OK {
		r.spoil()
		return 0
	}
	r.rest = r.rest[size:]
	return n
}

// five are the numbers that a body begins with.
func (r *reader) five() [5]int {
	var all [5]int
	for i := range all {
		all[i] = r.number()
	}
	return all
}

// count is how many there are of what follows: held against the most there may be, for bytes may tell any number.
func (r *reader) count(most int) int {
	n := r.number()
	if n < 0 || n > most {
		r.spoil()
		return 0
	}
	return n
}

// text is a copy, so that a short one does not hold on to all that it was read from.
func (r *reader) text(most int) string {
	n := r.count(most)
	if n > len(r.rest) {
		r.spoil()
		return ""
	}
	text := strings.Clone(r.rest[:n])
	r.rest = r.rest[n:]
	return text
}

func (r *reader) record() api.Record {
	time := r.number()
	key := r.text(api.MaxText)
	value := r.text(api.MaxText)
	return api.Record{Key: key, Value: value, Time: time}
}
