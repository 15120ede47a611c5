package wire_test

import (
	"bytes"
	"math"
	"slices"
	"strings"
	"testing"

	"actorgrid/api"
	"actorgrid/wire"
)

func TestStringEncodings(t *testing.T) {
	for _, s := range []string{"", "a", "\x00\xff", "héllo", strings.Repeat("x", 127), strings.Repeat("y", 128), strings.Repeat("z", 70000)} {
		b := wire.AppendString(nil, s)
		if want := append(wire.AppendUint(nil, uint64(len(s))), s...); !bytes.Equal(b, want) {
			t.Errorf("P1.2: AppendString of %d bytes = %x", len(s), b)
		}
		for _, in := range inputs(b) {
			for _, max := range []int{len(s), len(s) + 1, math.MaxInt} {
				if got, n, err := wire.String(in, max); got != s || n != len(b) || err != api.OK {
					t.Errorf("P1.2: String of %d bytes with the maximum %d: %d bytes, %d, %d", len(s), max, len(got), n, err)
				}
			}
		}
	}
}

func TestStringErrors(t *testing.T) {
	huge := wire.AppendUint(nil, math.MaxUint64)
	for _, c := range []struct {
		b   []byte
		max int
		err api.Errno
	}{
		{nil, -1, api.ErrInvalid},
		{[]byte{128, 0}, -1, api.ErrInvalid},
		{[]byte{1, 'a'}, math.MinInt, api.ErrInvalid},
		{nil, 0, api.ErrTruncated},
		{[]byte{128}, 0, api.ErrTruncated},
		{[]byte{128, 0}, 0, api.ErrEncoding},
		{[]byte{1, 'a'}, 0, api.ErrLimit},
		{[]byte{3}, 2, api.ErrLimit},
		{huge, math.MaxInt, api.ErrLimit},
		{[]byte{2, 'a'}, 2, api.ErrTruncated},
		{[]byte{1}, 1, api.ErrTruncated},
		{wire.AppendUint(nil, math.MaxInt), math.MaxInt, api.ErrTruncated},
	} {
		if s, n, err := wire.String(c.b, c.max); s != "" || n != 0 || err != c.err {
			t.Errorf("P1.2: String(%x, %d) = %q, %d, %d, want the error %d", c.b, c.max, s, n, err, c.err)
		}
	}
}

func TestIntLists(t *testing.T) {
	for _, l := range [][]int{nil, {}, {0}, {-1, 64}, {math.MinInt, math.MaxInt, 0}, make([]int, 200)} {
		want := wire.AppendUint(nil, uint64(len(l)))
		for _, v := range l {
			want = wire.AppendInt(want, v)
		}
		b := wire.AppendInts(nil, l)
		if !bytes.Equal(b, want) {
			t.Errorf("P1.2: AppendInts(%v) = %x, not %x", l, b, want)
		}
		for _, in := range inputs(b) {
			for _, max := range []int{len(l), len(l) + 1, math.MaxInt} {
				if got, n, err := wire.IntList(in, max); !slices.Equal(got, l) || n != len(b) || err != api.OK {
					t.Errorf("P1.2: IntList(%x, %d) = %v, %d, %d", in, max, got, n, err)
				}
			}
		}
	}
}

func TestIntListErrors(t *testing.T) {
	for _, c := range []struct {
		b   []byte
		max int
		err api.Errno
	}{
		{nil, -1, api.ErrInvalid},
		{[]byte{128, 0}, -1, api.ErrInvalid},
		{nil, 0, api.ErrTruncated},
		{[]byte{128, 0}, 0, api.ErrEncoding},
		{[]byte{1, 2}, 0, api.ErrLimit},
		{[]byte{3, 128, 0}, 2, api.ErrLimit},
		{wire.AppendUint(nil, 1<<63), math.MaxInt, api.ErrLimit},
		{[]byte{2, 2}, 2, api.ErrTruncated},
		{[]byte{1, 128}, 2, api.ErrTruncated},
		{[]byte{1, 128, 0}, 2, api.ErrEncoding},
		{[]byte{2, 128, 0}, 2, api.ErrEncoding},
		{append(wire.AppendUint(nil, math.MaxInt), 2, 4), math.MaxInt, api.ErrTruncated},
	} {
		if l, n, err := wire.IntList(c.b, c.max); len(l) != 0 || n != 0 || err != c.err {
			t.Errorf("P1.2: IntList(%x, %d) = %v, %d, %d, want the error %d", c.b, c.max, l, n, err, c.err)
		}
	}
}

func TestStringLists(t *testing.T) {
	longest := strings.Repeat("x", api.MaxString)
	for _, l := range [][]string{nil, {}, {""}, {"a", "", "bcd"}, {longest, longest}, make([]string, 200)} {
		want := wire.AppendUint(nil, uint64(len(l)))
		for _, s := range l {
			want = wire.AppendString(want, s)
		}
		b := wire.AppendStrings(nil, l)
		if !bytes.Equal(b, want) {
			t.Errorf("P1.2: AppendStrings(%q) = %x, not %x", l, b, want)
		}
		for _, in := range inputs(b) {
			for _, max := range []int{len(l), len(l) + 1, math.MaxInt} {
				if got, n, err := wire.StringList(in, max); !slices.Equal(got, l) || n != len(b) || err != api.OK {
					t.Errorf("P1.2: StringList(%x, %d) = %q, %d, %d", in, max, got, n, err)
				}
			}
		}
	}
}

func TestStringListErrors(t *testing.T) {
	long := strings.Repeat("x", api.MaxString+1)
	for _, c := range []struct {
		b   []byte
		max int
		err api.Errno
	}{
		{nil, -1, api.ErrInvalid},
		{[]byte{128, 0}, -1, api.ErrInvalid},
		{nil, 0, api.ErrTruncated},
		{[]byte{128, 0}, 0, api.ErrEncoding},
		{[]byte{1, 0}, 0, api.ErrLimit},
		{[]byte{3, 128, 0}, 2, api.ErrLimit},
		{wire.AppendUint(nil, 1<<63), math.MaxInt, api.ErrLimit},
		{[]byte{2, 0}, 2, api.ErrTruncated},
		{[]byte{1, 2, 'a'}, 2, api.ErrTruncated},
		{[]byte{1, 128, 0}, 2, api.ErrEncoding},
		{[]byte{2, api.MaxString + 1}, 2, api.ErrLimit},
		{wire.AppendStrings(nil, []string{"a", long}), math.MaxInt, api.ErrLimit},
		{append(wire.AppendUint(nil, math.MaxInt), 0, 0), math.MaxInt, api.ErrTruncated},
	} {
		if l, n, err := wire.StringList(c.b, c.max); len(l) != 0 || n != 0 || err != c.err {
			t.Errorf("P1.2: StringList(%x, %d) = %q, %d, %d, want the error %d", c.b, c.max, l, n, err, c.err)
		}
	}
}
