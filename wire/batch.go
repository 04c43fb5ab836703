package wire

import "logboom/api"

// batchHead is how many bytes stand ahead of a batch's body: its length, its checksum.
const batchHead = 8

// Right tells whether a batch may be; Batch writes one, framed; ReadBatch reads the one at the front: how many bytes it has.
func Right(b api.Batch) api.Errno {
	switch {
	case !rightNumbers(b) || !rightTimes(b.Records) || len(b.Records) == 0:
		return api.ErrArg
	case len(b.Records) > api.MaxBatch:
		return api.ErrMany
	case hasLongText(b.Records):
		return api.ErrLong
	case goesOver(b):
		return api.ErrOver
	case batchHead+len(batchBody(b)) > api.MaxBytes:
		return api.ErrLong
	}
	return api.OK
}

func Batch(b api.Batch) (string, api.Errno) {
	if e := Right(b); e != api.OK {
		return "", e
	}
	body := batchBody(b)
	return four(len(body)) + four(Crc(body)) + body, api.OK
}

func ReadBatch(s string) (api.Batch, int, api.Errno) {
	if len(s) < batchHead {
		return api.Batch{}, 0, api.ErrShort
	}
	end := batchHead + readFour(s)
	switch {
	case end > api.MaxBytes:
		return api.Batch{}, 0, api.ErrLong
	case len(s) < end:
		return api.Batch{}, 0, api.ErrShort
	case readFour(s[4:]) != Crc(s[batchHead:end]):
		return api.Batch{}, 0, api.ErrSum
	}
	b, ok := readBatchBody(s[batchHead:end])
	if !ok || Right(b) != api.OK {
		return api.Batch{}, 0, api.ErrForm
	}
	return b, end, api.OK
}

// batchNumbers are a batch's, in the order of its body.
func batchNumbers(b api.Batch) [5]int {
	return [5]int{b.Base, b.Epoch, b.Pid, b.PidEpoch, b.Seq}
}

func rightNumbers(b api.Batch) bool {
	for i, n := range batchNumbers(b) {
		// A Base that is too great is told later, with those that the records make so.
		if n < 0 || i > 0 && n > api.MaxOffset {
			return false
		}
	}
	return b.Pid != 0 || b.PidEpoch == 0 && b.Seq == 0
}

func rightTimes(records []api.Record) bool {
	for _, r := range records {
		if r.Time < 0 || r.Time > api.MaxTick {
			return false
		}
	}
	return true
}

func hasLongText(records []api.Record) bool {
	for _, r := range records {
		if len(r.Key) > api.MaxText || len(r.Value) > api.MaxText {
			return true
		}
	}
	return false
}

// goesOver takes from the bounds instead of adding to Base, which may be any int that is not below 0.
func goesOver(b api.Batch) bool {
	more := len(b.Records) - 1
	return b.Base > api.MaxOffset-more || b.Seq > api.MaxSeq-more
}

func batchBody(b api.Batch) string {
	all := batchNumbers(b)
	body := appendInts(nil, all[:])
	body = appendInt(body, len(b.Records))
	for _, r := range b.Records {
		body = appendInt(body, r.Time)
		body = appendText(body, r.Key)
		body = appendText(body, r.Value)
	}
	return string(body)
}

// readBatchBody tells whether the body has a batch's form; that the batch is right is not looked at.
func readBatchBody(body string) (api.Batch, bool) {
	r := reader{rest: body}
	all := r.five()
	b := api.Batch{Base: all[0], Epoch: all[1], Pid: all[2], PidEpoch: all[3], Seq: all[4]}
	for range r.count(api.MaxBatch) {
		b.Records = append(b.Records, r.record())
	}
	return b, r.done()
}
