package rpc

import (
	"logboom/api"
	"logboom/wire"
)

const mostInts = 256

// rightBody is the body of a message that is right. That a message is not too long is seen by its body: so both are asked for at once.
func rightBody(m api.Msg) (string, api.Errno) {
	if e := rightParts(m); e != api.OK {
		return "", e
	}
	// Text alone has no bound of its own: one that is far too long is not copied to see that.
	if len(m.Text) > mostBody {
		return "", api.ErrLong
	}
	body := bodyOf(m)
	if len(body) > mostBody {
		return "", api.ErrLong
	}
	return body, api.OK
}

func rightParts(m api.Msg) api.Errno {
	switch {
	case !rightNumbers(m):
		return api.ErrArg
	case len(m.Batches) > api.MaxBatch || len(m.Entries) > api.MaxEntries || len(m.Ints) > mostInts:
		return api.ErrMany
	case len(m.Name) > api.MaxName:
		return api.ErrLong
	}
	for _, b := range m.Batches {
		if e := wire.Right(b); e != api.OK {
			return e
		}
	}
	for _, e := range m.Entries {
		if wrong := rightEntry(e); wrong != api.OK {
			return wrong
		}
	}
	return api.OK
}

func rightNumbers(m api.Msg) bool {
	for _, n := range numbersOf(m) {
		if n < -1 || n > api.MaxOffset {
			return false
		}
	}
	return m.Kind >= 1 && m.Kind <= api.KindLast && m.Err >= api.OK && m.Err <= api.ErrScript
}

func rightEntry(e api.Entry) api.Errno {
	switch {
	case e.Term < 0 || e.Term > api.MaxOffset || e.Index < 0 || e.Index > api.MaxOffset:
		return api.ErrArg
	case len(e.Data) > api.MaxData:
		return api.ErrLong
	}
	return api.OK
}
