package rpc

import (
	"logboom/api"
	"logboom/pieces"
)

// readBody tells whether the message that was read has this body. A part that is told to be there, and is 0 or empty, and a sum that names parts of none, are read over: what comes of them has another body.
func readBody(body string) (api.Msg, bool) {
	r := pieces.Read(body)
	m := readParts(r)
	its, e := rightBody(m)
	return m, r.Done() && e == api.OK && its == body
}

func readParts(r *pieces.Reader) api.Msg {
	kind, parts := r.Int(), r.Int()
	m := ofNumbers(readNumbers(r, parts))
	m.Kind = kind
	if has(parts, partErr) {
		m.Err = api.Errno(r.Int())
	}
	if has(parts, partName) {
		m.Name = r.Text(api.MaxName)
	}
	if has(parts, partText) {
		m.Text = r.Text(mostBody)
	}
	if has(parts, partBatches) {
		m.Batches = readList(r, api.MaxBatch, (*pieces.Reader).Batch)
	}
	if has(parts, partEntries) {
		m.Entries = readList(r, api.MaxEntries, readEntry)
	}
	if has(parts, partInts) {
		m.Ints = readList(r, mostInts, (*pieces.Reader).Int)
	}
	return m
}

func has(parts, part int) bool { return parts>>part&1 == 1 }

func readNumbers(r *pieces.Reader, parts int) numbers {
	var all numbers
	for i := range all {
		if has(parts, i) {
			all[i] = r.Int()
		}
	}
	return all
}

func readEntry(r *pieces.Reader) api.Entry {
	term, index := r.Int(), r.Int()
	return api.Entry{Term: term, Index: index, Data: r.Text(api.MaxData)}
}

// readList reads how many there are, and each of them by one.
func readList[T any](r *pieces.Reader, most int, one func(*pieces.Reader) T) []T {
	var list []T
	for range r.Count(most) {
		list = append(list, one(r))
	}
	return list
}
