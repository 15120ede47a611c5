// Package wire: canonical binary encoding of numbers, strings, lists and values, and checksummed frames. See doc/01-wire.md.
package wire

import "actorgrid/api"

const (
	group    = 1 << 7 // each byte of a number carries seven bits; a byte from group on has a successor
	maxUint  = 10     // bytes of the longest number
	lastByte = maxUint - 1
)

// AppendUint appends v in groups of seven bits, the least significant group first.
func AppendUint(b []byte, v uint64) []byte {
	return putUint(grown(b, maxUint), v)
}

// Uint decodes a number.
func Uint(b []byte) (v uint64, n int, err api.Errno) {
	for i, c := range b {
		// The tenth byte has room for one bit, and a zero group at the end would be a longer form of the same number.
		if i == lastByte && c > 1 || i > 0 && c == 0 {
			return 0, 0, api.ErrEncoding
		}
		v |= uint64(c%group) << (7 * i)
		if c < group {
			return v, i + 1, api.OK
		}
	}
	return 0, 0, api.ErrTruncated
}

// AppendInt appends v as the unsigned number 2v, or -2v - 1 if v is negative.
func AppendInt(b []byte, v int) []byte {
	return putInt(grown(b, maxUint), v)
}

// Int decodes a number that AppendInt appends.
func Int(b []byte) (v int, n int, err api.Errno) {
	u, n, err := Uint(b)
	if err != api.OK {
		return 0, 0, err
	}
	half := int(u / 2)
	if u%2 == 1 {
		return -half - 1, n, api.OK
	}
	return half, n, api.OK
}

// grown copies b into new memory with room for n more bytes, so that appending to it never writes into the caller's memory.
func grown(b []byte, n int) []byte {
	out := make([]byte, len(b), len(b)+n)
	copy(out, b)
	return out
}

// putUint appends to b itself, which must be memory of this package.
func putUint(b []byte, v uint64) []byte {
	for v >= group {
		b = append(b, byte(v%group+group))
		v /= group
	}
	return append(b, byte(v))
}

// putInt adds one before it negates: the least int has no positive counterpart.
func putInt(b []byte, v int) []byte {
	if v < 0 {
		return putUint(b, 2*uint64(-(v+1))+1)
	}
	return putUint(b, 2*uint64(v))
}
