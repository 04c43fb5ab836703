package wire

import "logboom/api"

// metaHead is how many bytes stand ahead of the body of a record of metadata: its checksum.
const metaHead = 4

// Meta and ReadMeta likewise, of a record of metadata.
func Meta(m api.Meta) (string, api.Errno) {
	switch {
	case len(m.Name) > api.MaxName || len(m.Text) > api.MaxText:
		return "", api.ErrLong
	case len(m.List) > api.MaxBatch:
		return "", api.ErrMany
	}
	body := metaBody(m)
	// With today's bounds of its parts no record is so long.
	if metaHead+len(body) > api.MaxData {
		return "", api.ErrLong
	}
	return four(Crc(body)) + body, api.OK
}

func ReadMeta(s string) (api.Meta, api.Errno) {
	switch {
	case len(s) < metaHead:
		return api.Meta{}, api.ErrShort
	case len(s) > api.MaxData:
		return api.Meta{}, api.ErrLong
	case readFour(s) != Crc(s[metaHead:]):
		return api.Meta{}, api.ErrSum
	}
	m, ok := readMetaBody(s[metaHead:])
	if !ok {
		return api.Meta{}, api.ErrForm
	}
	return m, api.OK
}

func metaBody(m api.Meta) string {
	all := [5]int{m.Kind, m.A, m.B, m.C, m.D}
	body := appendInts(nil, all[:])
	body = appendText(body, m.Name)
	body = appendText(body, m.Text)
	body = appendInt(body, len(m.List))
	return string(appendInts(body, m.List))
}

// readMetaBody tells whether the body is that of a record.
func readMetaBody(body string) (api.Meta, bool) {
	r := reader{rest: body}
	all := r.five()
	m := api.Meta{Kind: all[0], A: all[1], B: all[2], C: all[3], D: all[4]}
	m.Name = r.text(api.MaxName)
	m.Text = r.text(api.MaxText)
	for range r.count(api.MaxBatch) {
		m.List = append(m.List, r.number())
	}
	return m, r.done()
}
