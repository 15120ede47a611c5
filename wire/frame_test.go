package wire_test

import (
	"bytes"
	"encoding/binary"
	"hash/crc32"
	"testing"

	"actorgrid/api"
	"actorgrid/wire"
)

func TestChecksum(t *testing.T) {
	if got := wire.Checksum(nil); got != 0 {
		t.Errorf("P1.4: Checksum of nothing = %x", got)
	}
	if got := wire.Checksum([]byte("123456789")); got != 0xCBF43926 {
		t.Errorf("P1.4: Checksum = %x", got)
	}
	for c := range 256 {
		b := []byte{byte(c), byte(c * 7), byte(255 - c)}
		for n := range b {
			if got, want := wire.Checksum(b[:n+1]), crc32.ChecksumIEEE(b[:n+1]); got != want {
				t.Errorf("P1.4: Checksum(%x) = %x, not %x", b[:n+1], got, want)
			}
		}
	}
}

// framed builds a frame by the text of P1.4, for any kind and body.
func framed(kind byte, body []byte) []byte {
	b := append(binary.AppendUvarint([]byte{'A', 'G', kind}, uint64(len(body))), body...)
	return binary.LittleEndian.AppendUint32(b, crc32.ChecksumIEEE(b))
}

func TestFrames(t *testing.T) {
	bodies := [][]byte{nil, {}, {0}, {1, 2}, []byte("AG"), bytes.Repeat([]byte{5}, 127), bytes.Repeat([]byte{6}, 128), bytes.Repeat([]byte{7}, api.MaxBody)}
	for _, kind := range []int{1, 7, 255} {
		for _, body := range bodies {
			f, err := wire.Seal(kind, body)
			if err != api.OK || !bytes.Equal(f, framed(byte(kind), body)) {
				t.Errorf("P1.4: Seal(%d, %d bytes): %d bytes, %d", kind, len(body), len(f), err)
			}
			for _, in := range inputs(f) {
				k, got, n, err := wire.Open(in)
				if k != kind || !bytes.Equal(got, body) || n != len(f) || err != api.OK {
					t.Errorf("P1.4: Open of kind %d and %d bytes: %d, %d bytes, %d, %d", kind, len(body), k, len(got), n, err)
				}
			}
		}
	}
}

func TestSealErrors(t *testing.T) {
	for _, c := range []struct {
		kind int
		size int
	}{{0, 0}, {-1, 0}, {256, 0}, {257, 1}, {1, api.MaxBody + 1}} {
		if f, err := wire.Seal(c.kind, make([]byte, c.size)); f != nil || err != api.ErrInvalid {
			t.Errorf("P1.4: Seal(%d, %d bytes): %d bytes, %d", c.kind, c.size, len(f), err)
		}
	}
}

func TestOpenErrors(t *testing.T) {
	limit := binary.AppendUvarint([]byte{'A', 'G', 1}, api.MaxBody)
	over := binary.AppendUvarint([]byte{'A', 'G', 1}, api.MaxBody+1)
	for _, c := range []struct {
		b   []byte
		err api.Errno
	}{
		{nil, api.ErrTruncated},
		{[]byte("A"), api.ErrTruncated},
		{[]byte("XY"), api.ErrTruncated},
		{[]byte("AG"), api.ErrTruncated},
		{[]byte("AX\x01"), api.ErrEncoding},
		{[]byte("XG\x01"), api.ErrEncoding},
		{[]byte("GA\x01"), api.ErrEncoding},
		{[]byte("AG\x00"), api.ErrEncoding},
		{framed(0, []byte{1}), api.ErrEncoding},
		{[]byte("AG\x01"), api.ErrTruncated},
		{[]byte("AG\x01\x80"), api.ErrTruncated},
		{[]byte("AG\x01\x80\x00"), api.ErrEncoding},
		{over, api.ErrLimit},
		{limit, api.ErrTruncated},
		{[]byte("AG\x01\x00\x00\x00\x00"), api.ErrTruncated},
		{[]byte("AG\x01\x00\x00\x00\x00\x00"), api.ErrChecksum},
	} {
		if kind, body, n, err := wire.Open(c.b); kind != 0 || body != nil || n != 0 || err != c.err {
			t.Errorf("P1.4: Open(%x) = %d, %x, %d, %d, want the error %d", c.b, kind, body, n, err, c.err)
		}
	}
}

func TestOpenSeesEveryDamage(t *testing.T) {
	f := framed(7, []byte("body"))
	for i := range f {
		if kind, body, n, err := wire.Open(f[:i]); kind != 0 || body != nil || n != 0 || err != api.ErrTruncated {
			t.Errorf("P1.4: Open of %d bytes of a frame: %d", i, err)
		}
		for bit := range 8 {
			bent := bytes.Clone(f)
			bent[i] ^= 1 << bit
			if kind, body, n, err := wire.Open(bent); kind != 0 || body != nil || n != 0 || err == api.OK {
				t.Errorf("P1.4: Open accepts a frame with bit %d of byte %d changed", bit, i)
			}
		}
	}
}

func TestFramesAreNewMemory(t *testing.T) {
	body := append(make([]byte, 0, 64), 1, 2, 3)
	f, _ := wire.Seal(7, body)
	kept := bytes.Clone(f)
	_, opened, _, _ := wire.Open(f)
	clear(opened)
	if !bytes.Equal(f, kept) {
		t.Error("P1.4: the body that Open returns shares memory with the frame")
	}
	clear(f)
	if !bytes.Equal(body, []byte{1, 2, 3}) {
		t.Error("P1.4: the frame that Seal returns shares memory with the body")
	}
}
