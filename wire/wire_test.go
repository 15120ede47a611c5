package wire_test

import (
	"bytes"
	"encoding/binary"
	"math"
	"testing"

	"actorgrid/api"
	"actorgrid/wire"
)

// inputs returns b alone and b with bytes after it, which a decoder has to leave alone.
func inputs(b []byte) [][]byte {
	return [][]byte{b, append(bytes.Clone(b), 0, 255, 7)}
}

// edges are the numbers around every change of the length of an encoding.
func edges() []uint64 {
	l := []uint64{0, math.MaxUint64}
	for i := range 64 {
		l = append(l, 1<<i-1, 1<<i, 1<<i+1)
	}
	return l
}

func TestUintEncodings(t *testing.T) {
	for _, c := range []struct {
		v uint64
		b []byte
	}{
		{0, []byte{0}}, {1, []byte{1}}, {127, []byte{127}}, {128, []byte{128, 1}}, {300, []byte{0xac, 2}},
		{16383, []byte{255, 127}}, {16384, []byte{128, 128, 1}},
		{1 << 63, []byte{128, 128, 128, 128, 128, 128, 128, 128, 128, 1}},
		{math.MaxUint64, []byte{255, 255, 255, 255, 255, 255, 255, 255, 255, 1}},
	} {
		if got := wire.AppendUint(nil, c.v); !bytes.Equal(got, c.b) {
			t.Errorf("P1.1: AppendUint(%d) = %x", c.v, got)
		}
	}
}

func TestUintReadsWhatAppendUintWrites(t *testing.T) {
	for _, v := range edges() {
		want := binary.AppendUvarint(nil, v)
		b := wire.AppendUint(nil, v)
		if !bytes.Equal(b, want) {
			t.Errorf("P1.1: AppendUint(%d) = %x, not %x", v, b, want)
		}
		for _, in := range inputs(b) {
			if got, n, err := wire.Uint(in); got != v || n != len(b) || err != api.OK {
				t.Errorf("P1.1: Uint(%x) = %d, %d, %d", in, got, n, err)
			}
		}
		for i := range b {
			if got, n, err := wire.Uint(b[:i]); got != 0 || n != 0 || err != api.ErrTruncated {
				t.Errorf("P1.1: Uint(%x) = %d, %d, %d", b[:i], got, n, err)
			}
		}
	}
}

func TestUintErrors(t *testing.T) {
	nine := bytes.Repeat([]byte{255}, 9)
	for _, c := range []struct {
		b   []byte
		err api.Errno
	}{
		{nil, api.ErrTruncated},
		{[]byte{}, api.ErrTruncated},
		{[]byte{128}, api.ErrTruncated},
		{[]byte{128, 128}, api.ErrTruncated},
		{nine, api.ErrTruncated},
		{[]byte{128, 0}, api.ErrEncoding},
		{[]byte{255, 0}, api.ErrEncoding},
		{[]byte{128, 128, 0}, api.ErrEncoding},
		{append(bytes.Clone(nine), 0), api.ErrEncoding},
		{append(bytes.Clone(nine), 2), api.ErrEncoding},
		{append(bytes.Clone(nine), 127), api.ErrEncoding},
		{append(bytes.Clone(nine), 128), api.ErrEncoding},
		{append(bytes.Clone(nine), 129, 1), api.ErrEncoding},
	} {
		if v, n, err := wire.Uint(c.b); v != 0 || n != 0 || err != c.err {
			t.Errorf("P1.1: Uint(%x) = %d, %d, %d, want the error %d", c.b, v, n, err, c.err)
		}
		if v, n, err := wire.Int(c.b); v != 0 || n != 0 || err != c.err {
			t.Errorf("P1.1: Int(%x) = %d, %d, %d, want the error %d", c.b, v, n, err, c.err)
		}
	}
}

func TestIntEncodings(t *testing.T) {
	for _, c := range []struct {
		v int
		u uint64
	}{
		{0, 0}, {-1, 1}, {1, 2}, {-2, 3}, {2, 4}, {-64, 127}, {64, 128}, {-65, 129},
		{math.MaxInt, math.MaxUint64 - 1}, {math.MinInt + 1, math.MaxUint64 - 2}, {math.MinInt, math.MaxUint64},
	} {
		b := binary.AppendUvarint(nil, c.u)
		if got := wire.AppendInt(nil, c.v); !bytes.Equal(got, b) {
			t.Errorf("P1.1: AppendInt(%d) = %x, not %x", c.v, got, b)
		}
		for _, in := range inputs(b) {
			if got, n, err := wire.Int(in); got != c.v || n != len(b) || err != api.OK {
				t.Errorf("P1.1: Int(%x) = %d, %d, %d", in, got, n, err)
			}
		}
	}
	for _, u := range edges() {
		for _, v := range []int{int(u >> 1), -int(u>>1) - 1} {
			b := wire.AppendInt(nil, v)
			if got, n, err := wire.Int(b); got != v || n != len(b) || err != api.OK {
				t.Errorf("P1.1: Int(%x) = %d, %d, %d, want %d", b, got, n, err, v)
			}
		}
	}
}

// appenders call every Append function.
func appenders() map[string]func(b []byte) []byte {
	return map[string]func(b []byte) []byte{
		"AppendUint":    func(b []byte) []byte { return wire.AppendUint(b, 300) },
		"AppendInt":     func(b []byte) []byte { return wire.AppendInt(b, -300) },
		"AppendString":  func(b []byte) []byte { return wire.AppendString(b, "ab") },
		"AppendInts":    func(b []byte) []byte { return wire.AppendInts(b, []int{1, 500}) },
		"AppendStrings": func(b []byte) []byte { return wire.AppendStrings(b, []string{"a", "bc"}) },
		"Unit":          func(b []byte) []byte { return wire.AppendValue(b, api.Value{}) },
		"Int":           func(b []byte) []byte { return wire.AppendValue(b, api.Value{Kind: api.Int, N: 5}) },
		"Bool":          func(b []byte) []byte { return wire.AppendValue(b, api.Value{Kind: api.Bool, N: 1}) },
		"String":        func(b []byte) []byte { return wire.AppendValue(b, api.Value{Kind: api.String, S: "x"}) },
		"Ints":          func(b []byte) []byte { return wire.AppendValue(b, api.Value{Kind: api.Ints, I: []int{3}}) },
		"Strings":       func(b []byte) []byte { return wire.AppendValue(b, api.Value{Kind: api.Strings, L: []string{"x"}}) },
	}
}

func TestAppendReturnsNewMemory(t *testing.T) {
	for name, add := range appenders() {
		alone := add(nil)
		store := bytes.Repeat([]byte{9}, 64)
		got := add(store[:3])
		if !bytes.Equal(got, append([]byte{9, 9, 9}, alone...)) {
			t.Errorf("P1.1-P1.3: %s = %x does not continue its argument with %x", name, got, alone)
		}
		clear(got[:cap(got)])
		if !bytes.Equal(store, bytes.Repeat([]byte{9}, 64)) {
			t.Errorf("P1.1-P1.3: %s shares memory with its argument", name)
		}
		if !bytes.Equal(add([]byte{}), alone) {
			t.Errorf("P1.1-P1.3: %s distinguishes nil from an empty slice", name)
		}
	}
}
