package raftlog

import (
	"strings"

	"logboom/api"
	"logboom/pieces"
)

// An entry's head has headSize bytes, and tells a body of at most mostBody.
const (
	headSize = 8
	mostBody = 2100
)

// termText is what the file has of a term and a vote.
func termText(term, vote int) string {
	return pieces.Seal(string(pieces.AppendInts(nil, term, vote)))
}

func readTerm(b string) (int, int, api.Errno) {
	rest, e := pieces.Unseal(b)
	if e != api.OK {
		return 0, 0, e
	}
	r := pieces.Read(rest)
	term, vote := r.Int(), r.Int()
	if !r.Done() || !isNumber(term) || !isNumber(vote) {
		return 0, 0, api.ErrForm
	}
	return term, vote, api.OK
}

// snapText is what the file has of a snapshot.
func snapText(snap api.Entry) string {
	return pieces.Seal(string(pieces.AppendText(pieces.AppendInts(nil, snap.Index, snap.Term), snap.Data)))
}

func readSnap(b string) (api.Entry, api.Errno) {
	rest, e := pieces.Unseal(b)
	if e != api.OK {
		return api.Entry{}, e
	}
	r := pieces.Read(rest)
	snap := api.Entry{Index: r.Int(), Term: r.Int(), Data: r.Text(mostSnapshot)}
	if !r.Done() || !isId(snap.Index) || !isId(snap.Term) {
		return api.Entry{}, api.ErrForm
	}
	return snap, api.OK
}

// logText is what the file has of entries.
func logText(list []api.Entry) string {
	b := strings.Builder{}
	for _, x := range list {
		body := string(pieces.AppendText(pieces.AppendInts(nil, x.Term, x.Index), x.Data))
		b.WriteString(pieces.Four(len(body)))
		b.WriteString(pieces.Seal(body))
	}
	return b.String()
}

// readEntries reads a file's entries, up to where it ends or is torn: they, and how many bytes they have. snap is the snapshot's index.
func readEntries(b string, snap int) ([]api.Entry, int, api.Errno) {
	var list []api.Entry
	at := 0
	for {
		x, size, e := readEntry(b[at:])
		if e == api.ErrShort {
			return list, at, api.OK
		}
		if e != api.OK {
			return nil, 0, e
		}
		if !follows(x, list, snap) {
			return nil, 0, api.ErrForm
		}
		list = append(list, x)
		at += size
	}
}

// follows tells whether an entry may stand behind those that were read.
func follows(x api.Entry, list []api.Entry, snap int) bool {
	if len(list) == 0 {
		return x.Index <= snap+1
	}
	last := list[len(list)-1]
	return x.Index == last.Index+1 && x.Term >= last.Term
}

// readEntry reads the entry at the front of b, and tells how many bytes it has. ErrShort: it is torn, or there is none.
func readEntry(b string) (api.Entry, int, api.Errno) {
	if len(b) < headSize {
		return api.Entry{}, 0, api.ErrShort
	}
	size := pieces.ReadFour(b)
	if size > mostBody {
		return api.Entry{}, 0, api.ErrForm
	}
	b = b[headSize-4:]
	if len(b) < 4+size {
		return api.Entry{}, 0, api.ErrShort
	}
	body, e := pieces.Unseal(b[:4+size])
	if e != api.OK {
		return api.Entry{}, 0, e
	}
	x, e := readBody(body)
	return x, headSize + size, e
}

func readBody(body string) (api.Entry, api.Errno) {
	r := pieces.Read(body)
	x := api.Entry{Term: r.Int(), Index: r.Int(), Data: r.Text(api.MaxData)}
	if !r.Done() || !isId(x.Term) || !isId(x.Index) {
		return api.Entry{}, api.ErrForm
	}
	return x, api.OK
}
