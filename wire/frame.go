package wire

import "actorgrid/api"

const (
	headBytes = 3 // 'A', 'G' and the kind
	sumBytes  = 4
	maxKind   = 255
)

// halfSums holds what four bits that leave the register do to it.
var halfSums = [16]uint32{
	0x00000000, 0x1db71064, 0x3b6e20c8, 0x26d930ac,
	0x76dc4190, 0x6b6b51f4, 0x4db26158, 0x5005713c,
	0xedb88320, 0xf00f9344, 0xd6d6a3e8, 0xcb61b38c,
	0x9b64c2b0, 0x86d3d2d4, 0xa00ae278, 0xbdbdf21c,
}

// Checksum returns the CRC-32 of b with the IEEE polynomial.
func Checksum(b []byte) uint32 {
	sum := ^uint32(0)
	for _, c := range b {
		sum ^= uint32(c)
		sum = sum>>4 ^ halfSums[sum%16]
		sum = sum>>4 ^ halfSums[sum%16]
	}
	return ^sum
}

// Seal returns a frame: a head with the kind, the length of body, body, and a checksum of all of it.
func Seal(kind int, body []byte) ([]byte, api.Errno) {
	if kind < 1 || kind > maxKind || len(body) > api.MaxBody {
		return nil, api.ErrInvalid
	}
	frame := make([]byte, 0, headBytes+maxUint+len(body)+sumBytes)
	frame = append(frame, 'A', 'G', byte(kind))
	frame = putUint(frame, uint64(len(body)))
	frame = append(frame, body...)
	return putSum(frame, Checksum(frame)), api.OK
}

// Open returns the kind and the body of the frame at the beginning of b, and the length of the frame.
func Open(b []byte) (kind int, body []byte, n int, err api.Errno) {
	if len(b) < headBytes {
		return 0, nil, 0, api.ErrTruncated
	}
	if b[0] != 'A' || b[1] != 'G' || b[2] == 0 {
		return 0, nil, 0, api.ErrEncoding
	}
	size, used, err := length(b[headBytes:], api.MaxBody)
	if err != api.OK {
		return 0, nil, 0, err
	}
	start := headBytes + used
	if len(b)-start < size+sumBytes {
		return 0, nil, 0, api.ErrTruncated
	}
	end := start + size
	if readSum(b[end:]) != Checksum(b[:end]) {
		return 0, nil, 0, api.ErrChecksum
	}
	return int(b[2]), grown(b[start:end], 0), end + sumBytes, api.OK
}

func putSum(b []byte, sum uint32) []byte {
	return append(b, byte(sum), byte(sum>>8), byte(sum>>16), byte(sum>>24))
}

func readSum(b []byte) uint32 {
	return uint32(b[0]) | uint32(b[1])<<8 | uint32(b[2])<<16 | uint32(b[3])<<24
}
