package pieces

import (
	"strings"

	"logboom/api"
	"logboom/wire"
)

// Reader takes bytes apart, from the front on. What was wrong once stays so: then nothing is left to be read, and Done tells it at the end.
type Reader struct {
	rest  string
	wrong bool
}

// Read begins at the front of b.
func Read(b string) *Reader { return &Reader{rest: b} }

// Done tells whether all was right, and nothing is left.
func (r *Reader) Done() bool { return !r.wrong && r.rest == "" }

func (r *Reader) spoil() { *r = Reader{wrong: true} }

func (r *Reader) Int() int {
	n, size, e := wire.ReadInt(r.rest)
	if e != api.OK {
		r.spoil()
		return 0
	}
	r.rest = r.rest[size:]
	return n
}

// Count is how many there are of what follows: held against the most there may be, for bytes may tell any number.
func (r *Reader) Count(most int) int {
	n := r.Int()
	if n < 0 || n > most {
		r.spoil()
		return 0
	}
	return n
}

// Text is a copy, so that a short one does not hold on to all that it was read from.
func (r *Reader) Text(most int) string {
	n := r.Count(most)
	if n > len(r.rest) {
		r.spoil()
		return ""
	}
	text := strings.Clone(r.rest[:n])
	r.rest = r.rest[n:]
	return text
}

func (r *Reader) Batch() api.Batch {
	b, size, e := wire.ReadBatch(r.rest)
	if e != api.OK {
		r.spoil()
		return api.Batch{}
	}
	r.rest = r.rest[size:]
	return b
}
