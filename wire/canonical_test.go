package wire_test

import (
	"bytes"
	"math/rand"
	"testing"

	"actorgrid/api"
	"actorgrid/wire"
)

// decoding says what a decoder made of some bytes: how it encodes again, whether it is the zero value, and the other results.
type decoding struct {
	again []byte
	zero  bool
	n     int
	err   api.Errno
}

// decoders call every decoding function.
func decoders() map[string]func(b []byte) decoding {
	const max = 3
	return map[string]func(b []byte) decoding{
		"Uint": func(b []byte) decoding {
			v, n, err := wire.Uint(b)
			return decoding{wire.AppendUint(nil, v), v == 0, n, err}
		},
		"Int": func(b []byte) decoding {
			v, n, err := wire.Int(b)
			return decoding{wire.AppendInt(nil, v), v == 0, n, err}
		},
		"String": func(b []byte) decoding {
			v, n, err := wire.String(b, max)
			return decoding{wire.AppendString(nil, v), v == "", n, err}
		},
		"IntList": func(b []byte) decoding {
			v, n, err := wire.IntList(b, max)
			return decoding{wire.AppendInts(nil, v), len(v) == 0, n, err}
		},
		"StringList": func(b []byte) decoding {
			v, n, err := wire.StringList(b, max)
			return decoding{wire.AppendStrings(nil, v), len(v) == 0, n, err}
		},
		"Value": func(b []byte) decoding {
			v, n, err := wire.Value(b)
			return decoding{wire.AppendValue(nil, v), wire.SameValue(v, api.Value{}), n, err}
		},
	}
}

func checkCanonical(t *testing.T, name string, decode func(b []byte) decoding, b []byte) {
	kept := bytes.Clone(b)
	d := decode(b)
	if !bytes.Equal(b, kept) {
		t.Fatalf("P1.5: %s changes %x", name, kept)
	}
	if d.err != api.OK && (!d.zero || d.n != 0) {
		t.Fatalf("P1.5: %s(%x) returns more than its error %d", name, b, d.err)
	}
	if d.err == api.OK && (d.n != len(d.again) || !bytes.HasPrefix(b, d.again)) {
		t.Fatalf("P1.5: %s(%x) accepts %d bytes whose result is encoded as %x", name, b, d.n, d.again)
	}
}

func TestWhatIsDecodedIsCanonical(t *testing.T) {
	r := rand.New(rand.NewSource(1))
	common := []byte{0, 0, 1, 1, 2, 2, 3, 4, 5, 6, 63, 64, 65, 127, 128, 128, 129, 255}
	for name, decode := range decoders() {
		checkCanonical(t, name, decode, nil)
		for i := range 1 << 16 {
			checkCanonical(t, name, decode, []byte{byte(i)})
			checkCanonical(t, name, decode, []byte{byte(i), byte(i >> 8)})
		}
		for range 100000 {
			b := make([]byte, r.Intn(14))
			for i := range b {
				b[i] = common[r.Intn(len(common))]
			}
			checkCanonical(t, name, decode, b)
		}
	}
}

func TestEncodedValuesAreDecoded(t *testing.T) {
	for _, v := range validValues() {
		b := wire.AppendValue(nil, v)
		for _, in := range inputs(b) {
			got, n, err := wire.Value(in)
			if !wire.SameValue(got, v) || n != len(b) || err != api.OK {
				t.Errorf("P1.5: Value(%x) = %v, %d, %d", in, got, n, err)
			}
		}
		for i := range b {
			if _, n, err := wire.Value(b[:i]); n != 0 || err != api.ErrTruncated {
				t.Errorf("P1.5: Value(%x), a part of an encoding: %d, %d", b[:i], n, err)
			}
		}
	}
}

func TestOpenedFramesAreCanonical(t *testing.T) {
	for _, body := range [][]byte{nil, {1}, bytes.Repeat([]byte{128}, 300)} {
		f := framed(9, body)
		kind, got, n, err := wire.Open(f)
		if err != api.OK || n != len(f) {
			t.Fatalf("P1.5: Open(%x): %d, %d", f, n, err)
		}
		if again, err := wire.Seal(kind, got); err != api.OK || !bytes.Equal(again, f) {
			t.Errorf("P1.5: Seal of the opened frame %x = %x, %d", f, again, err)
		}
	}
	longer := []byte{'A', 'G', 1, 129, 0, 5}
	longer = append(longer, 0, 0, 0, 0)
	if _, _, _, err := wire.Open(longer); err != api.ErrEncoding {
		t.Errorf("P1.5: Open of a length in two bytes that fits into one: %d", err)
	}
}
