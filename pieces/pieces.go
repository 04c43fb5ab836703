// Package pieces: bytes put together and taken apart piece by piece, by wire's calls: what the layers behind wire have in common.
package pieces

import (
	"logboom/api"
	"logboom/wire"
)

// AppendInts writes each by wire.Int.
func AppendInts(to []byte, list ...int) []byte {
	for _, n := range list {
		to = append(to, wire.Int(n)...)
	}
	return to
}

// AppendText writes how many bytes there are, and these.
func AppendText(to []byte, text string) []byte {
	return append(AppendInts(to, len(text)), text...)
}

// Four is a number of 32 bits in four bytes, the highest first.
func Four(n int) string {
	return string([]byte{byte(n >> 24), byte(n >> 16), byte(n >> 8), byte(n)})
}

// ReadFour reads the number at the front of b; bytes that b has not are taken as 0.
func ReadFour(b string) int {
	n := 0
	for i := range 4 {
		n <<= 8
		if i < len(b) {
			n |= int(b[i])
		}
	}
	return n
}

// Seal writes a checksum of all ahead of it.
func Seal(rest string) string { return Four(wire.Crc(rest)) + rest }

// Unseal is what Seal was given. ErrShort: not even a checksum is there; ErrSum: it is of something else.
func Unseal(b string) (string, api.Errno) {
	if len(b) < 4 {
		return "", api.ErrShort
	}
	rest := b[4:]
	if ReadFour(b) != wire.Crc(rest) {
		return "", api.ErrSum
	}
	return rest, api.OK
}
