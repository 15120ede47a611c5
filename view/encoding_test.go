package view_test

import (
	"bytes"
	"slices"
	"testing"

	"actorgrid/api"
	"actorgrid/view"
	"actorgrid/wire"
)

// samples are views of all numbers of members, with small and great identifiers and numbers.
func samples() []api.View {
	var vs []api.View
	for n := 1; n <= api.MaxMembers; n++ {
		vs = append(vs,
			api.View{Number: 0, Members: span(1, n)},
			api.View{Number: 100 * n, Members: span(60, 59+n)},
			api.View{Number: 1 << (2 * n), Members: span(8100/api.MaxMembers, 8100/api.MaxMembers+n-1)},
			api.View{Number: api.MaxNumber, Members: span(api.MaxMemberID-n+1, api.MaxMemberID)})
	}
	return vs
}

func TestEncode(t *testing.T) {
	for _, c := range []struct {
		v    api.View
		want []byte
	}{
		{api.View{Members: []int{1}}, []byte{0, 1, 2}},
		{api.View{Number: 1, Members: []int{1, 2, 4}}, []byte{1, 3, 2, 4, 8}},
		{api.View{Number: 300, Members: []int{63, 64, 1000}}, []byte{0xac, 2, 3, 126, 0x80, 1, 0xd0, 0x0f}},
		{api.View{Number: api.MaxNumber, Members: []int{7}}, []byte{0x80, 0x80, 0x80, 0x80, 0x80, 0x20, 1, 14}},
	} {
		if got := view.Encode(c.v); !bytes.Equal(got, c.want) {
			t.Errorf("P3.3: Encode(%v) = %x, not %x", c.v, got, c.want)
		}
	}
	for _, v := range samples() {
		if got, want := view.Encode(v), wire.AppendInts(wire.AppendUint(nil, uint64(v.Number)), v.Members); !bytes.Equal(got, want) {
			t.Errorf("P3.3: Encode(%v) = %x, not %x", v, got, want)
		}
	}
	for _, v := range badViews() {
		if got := view.Encode(v); got != nil {
			t.Errorf("P3.3: Encode(%v) = %x, not nil", v, got)
		}
	}
}

func TestDecode(t *testing.T) {
	for _, v := range samples() {
		b := view.Encode(v)
		for _, rest := range [][]byte{nil, {0}, {0xff, 0xff}, b} {
			in := append(slices.Clone(b), rest...)
			got, n, err := view.Decode(in)
			if err != api.OK || n != len(b) || got.Number != v.Number || !slices.Equal(got.Members, v.Members) {
				t.Errorf("P3.3: Decode(%x) = %v, %d, %d, not %v, %d", in, got, n, err, v, len(b))
			}
		}
		for n := range b {
			checkRefused(t, b[:n], api.ErrTruncated)
		}
	}
}

func checkRefused(t *testing.T, b []byte, want api.Errno) {
	t.Helper()
	v, n, err := view.Decode(b)
	if err != want || v.Number != 0 || len(v.Members) != 0 || n != 0 {
		t.Errorf("P3.3: Decode(%x) = %v, %d, %d, not the error %d", b, v, n, err, want)
	}
}

func numbered(number uint64, members []int) []byte {
	return wire.AppendInts(wire.AppendUint(nil, number), members)
}

func TestDecodeRefuses(t *testing.T) {
	checkRefused(t, nil, api.ErrTruncated)
	checkRefused(t, []byte{0x80}, api.ErrTruncated)
	checkRefused(t, []byte{0x80, 0}, api.ErrEncoding)
	checkRefused(t, []byte{0x80, 0x80, 0x80, 0x80, 0x80, 0x80, 0x80, 0x80, 0x80, 2}, api.ErrEncoding)
	for _, number := range []uint64{api.MaxNumber + 1, 1 << 63, 1<<64 - 1} {
		checkRefused(t, wire.AppendUint(nil, number), api.ErrEncoding)
		checkRefused(t, numbered(number, []int{1}), api.ErrEncoding)
		checkRefused(t, numbered(number, span(1, 17)), api.ErrEncoding)
	}
	checkRefused(t, wire.AppendUint(nil, api.MaxNumber), api.ErrTruncated)
	checkRefused(t, []byte{3, 0x81, 0}, api.ErrEncoding)
	checkRefused(t, []byte{3, 17}, api.ErrLimit)
	checkRefused(t, []byte{3, 16}, api.ErrTruncated)
	checkRefused(t, numbered(3, span(1, 17)), api.ErrLimit)
	checkRefused(t, []byte{3, 2, 8, 0x80, 0}, api.ErrEncoding)
	checkRefused(t, []byte{3, 2, 8, 0x80}, api.ErrTruncated)
	checkRefused(t, []byte{3, 3, 4, 2}, api.ErrTruncated)
	for _, l := range badLists() {
		checkRefused(t, numbered(3, l), api.ErrEncoding)
	}
}

// TestDecodeAll goes through all strings of up to three bytes: what is decoded is encoded as what was read.
func TestDecodeAll(t *testing.T) {
	decoded := 0
	check := func(b []byte) {
		v, n, err := view.Decode(b)
		if err != api.OK {
			return
		}
		decoded++
		if !view.Valid(v) || !bytes.HasPrefix(b, view.Encode(v)) || len(view.Encode(v)) != n {
			t.Errorf("P3.3: Decode(%x) = %v, %d", b, v, n)
		}
	}
	for i := range 1 << 16 {
		check([]byte{byte(i >> 8), byte(i)})
		for _, c := range []byte{0, 1, 2, 3, 126, 127, 128, 255} {
			check([]byte{byte(i >> 8), byte(i), c})
			check([]byte{byte(i >> 8), 1, byte(i), c})
			check([]byte{c, 2, byte(i >> 8), byte(i)})
		}
	}
	if decoded == 0 {
		t.Error("P3.3: nothing was decoded")
	}
}
