package rpc

import (
	"math/bits"

	"logboom/api"
	"logboom/pieces"
	"logboom/wire"
)

// The numbers of a message's parts. Those ahead of Err are its fourteen numbers.
const (
	partErr = 14 + iota
	partName
	partText
	partBatches
	partEntries
	partInts
)

// numbers are a message's, in the order of their parts.
type numbers [partErr]int

func numbersOf(m api.Msg) numbers {
	return numbers{m.From, m.To, m.Id, m.Part, m.Epoch, m.Offset, m.Last, m.Start, m.High, m.Term, m.Index, m.Pid, m.PidEpoch, m.Seq}
}

func ofNumbers(n numbers) api.Msg {
	return api.Msg{
		From: n[0], To: n[1], Id: n[2], Part: n[3], Epoch: n[4], Offset: n[5], Last: n[6],
		Start: n[7], High: n[8], Term: n[9], Index: n[10], Pid: n[11], PidEpoch: n[12], Seq: n[13],
	}
}

// partsOf has the bit of each part that is there.
func partsOf(m api.Msg) int {
	parts := 0
	for i, n := range numbersOf(m) {
		parts |= bit(i, n != 0)
	}
	return parts | bit(partErr, m.Err != api.OK) | bit(partName, m.Name != "") | bit(partText, m.Text != "") |
		bit(partBatches, len(m.Batches) > 0) | bit(partEntries, len(m.Entries) > 0) | bit(partInts, len(m.Ints) > 0)
}

func bit(part int, there bool) int {
	if !there {
		return 0
	}
	return 1 << part
}

func bodyOf(m api.Msg) string {
	parts := partsOf(m)
	body := pieces.AppendInts(nil, m.Kind, parts)
	return string(appendParts(body, m, bits.TrailingZeros(uint(parts))))
}

// appendParts goes in at the first part that is there, and falls through to all behind it. (Of no parts the first is behind them all.)
func appendParts(to []byte, m api.Msg, first int) []byte {
	all := numbersOf(m)
	switch {
	case first < partErr:
		to = appendNumbers(to, all[first:]...)
		fallthrough
	case first == partErr:
		to = appendNumbers(to, int(m.Err))
		fallthrough
	case first == partName:
		to = appendText(to, m.Name)
		fallthrough
	case first == partText:
		to = appendText(to, m.Text)
		fallthrough
	case first == partBatches:
		to = appendBatches(to, m.Batches)
		fallthrough
	case first == partEntries:
		to = appendEntries(to, m.Entries)
		fallthrough
	case first == partInts:
		to = appendInts(to, m.Ints)
	}
	return to
}

// What is 0 or empty is not there, and not written: so it is with each of these.

func appendNumbers(to []byte, list ...int) []byte {
	for _, n := range list {
		if n != 0 {
			to = pieces.AppendInts(to, n)
		}
	}
	return to
}

func appendText(to []byte, text string) []byte {
	if text == "" {
		return to
	}
	return pieces.AppendText(to, text)
}

func appendBatches(to []byte, list []api.Batch) []byte {
	to = appendNumbers(to, len(list))
	for _, b := range list {
		s, _ := wire.Batch(b) // it is right
		to = append(to, s...)
	}
	return to
}

func appendEntries(to []byte, list []api.Entry) []byte {
	to = appendNumbers(to, len(list))
	for _, e := range list {
		to = pieces.AppendInts(to, e.Term, e.Index)
		to = pieces.AppendText(to, e.Data)
	}
	return to
}

func appendInts(to []byte, list []int) []byte {
	to = appendNumbers(to, len(list))
	return pieces.AppendInts(to, list...)
}
