package alerts_test

import (
	"bytes"
	"slices"
	"testing"

	"actorgrid/alerts"
	"actorgrid/api"
	"actorgrid/wire"
)

// pairs encodes a number of alerts, and subjects and rings by turns.
func pairs(count uint64, numbers ...uint64) []byte {
	b := wire.AppendUint(nil, count)
	for _, n := range numbers {
		b = append(b, wire.AppendUint(nil, n)...)
	}
	return b
}

// samples are sets of the view five of many sizes.
func samples() [][]api.Alert {
	l := [][]api.Alert{nil, {}, all(five())}
	for bits := range 1 << 8 {
		l = append(l, subset(bits))
	}
	for _, step := range []int{2, 3, 17, 38, 39, 40} {
		l = append(l, some(five(), 1, step))
	}
	return l
}

func TestEncode(t *testing.T) {
	for _, c := range []struct {
		set  []api.Alert
		want []byte
	}{
		{nil, []byte{0}}, {[]api.Alert{}, []byte{0}}, {subset(1), []byte{1, 2, 0}}, {subset(0b1100), []byte{2, 2, 4, 4, 1}},
		{subset(255), []byte{8, 2, 0, 2, 1, 2, 4, 4, 1, 4, 2, 40, 0, 0xe8, 7, 0, 0xe8, 7, 3}},
	} {
		if got := alerts.Encode(five(), c.set); !bytes.Equal(got, c.want) {
			t.Errorf("P6.4: Encode(%v) = %x, not %x", c.set, got, c.want)
		}
	}
	for _, set := range samples() {
		want := pairs(uint64(len(set)))
		for _, a := range set {
			want = append(want, pairs(uint64(a.Subject), uint64(a.Ring))...)
		}
		if got := alerts.Encode(five(), set); !bytes.Equal(got, want) {
			t.Errorf("P6.4: Encode of %d alerts is %x, not %x", len(set), got, want)
		}
	}
	for _, v := range views() {
		if got := alerts.Encode(v, nil); !bytes.Equal(got, []byte{0}) {
			t.Errorf("P6.4: Encode of the empty set of %v is %x", v, got)
		}
		if got := alerts.Encode(v, letters()); (got == nil) != (v.Number != 12) {
			t.Errorf("P6.4: Encode of a set of %v in %v is %x", five(), v, got)
		}
	}
}

func checkDecode(t *testing.T, v api.View, b []byte, want []api.Alert, size int) {
	t.Helper()
	if set, n, err := alerts.Decode(v, b); err != api.OK || n != size || !slices.Equal(set, want) {
		t.Errorf("P6.4: Decode(%x) in %v = %v, %d, %d, not %v, %d", b, v, set, n, err, want, size)
	}
}

func checkRefused(t *testing.T, v api.View, b []byte, want api.Errno) {
	t.Helper()
	if set, n, err := alerts.Decode(v, b); err != want || n != 0 || len(set) != 0 {
		t.Errorf("P6.4: Decode(%x) in %v = %v, %d, %d, not the error %d", b, v, set, n, err, want)
	}
}

// TestDecode decodes what is encoded, with other bytes behind it, and refuses all parts of it.
func TestDecode(t *testing.T) {
	for _, set := range samples() {
		b := alerts.Encode(five(), set)
		for _, rest := range [][]byte{nil, {0}, {0xff, 0xff}, {2, 0}, b} {
			checkDecode(t, five(), append(slices.Clone(b), rest...), set, len(b))
		}
		for n := 0; n < len(b) && len(set) <= 8; n++ {
			checkRefused(t, five(), b[:n], api.ErrTruncated)
		}
	}
	for _, v := range views() {
		for _, set := range [][]api.Alert{nil, some(v, 4, 9), all(v)} {
			b := alerts.Encode(v, set)
			checkDecode(t, v, b, set, len(b))
			checkRefused(t, v, b[:len(b)-1], api.ErrTruncated)
		}
	}
}

// TestDecodeElsewhere decodes the bytes of one view in another one: they say nothing of the number and of the observers.
func TestDecodeElsewhere(t *testing.T) {
	b := pairs(3, 2, 1, 2, 4, 7, 0)
	checkDecode(t, five(), b, []api.Alert{{View: 12, Ring: 1, Observer: 40, Subject: 2}, {View: 12, Ring: 4, Observer: 40, Subject: 2}, {View: 12, Ring: 0, Observer: 40, Subject: 7}}, 7)
	few := api.View{Number: 4, Members: []int{1, 2, 3}}
	checkDecode(t, few, b, []api.Alert{{View: 4, Ring: 1, Observer: 1, Subject: 2}, {View: 4, Ring: 4, Observer: 3, Subject: 2}, {View: 4, Ring: 0, Observer: 1, Subject: 7}}, 7)
	checkRefused(t, api.View{Number: 4, Members: []int{2}}, b, api.ErrEncoding)
	checkRefused(t, api.View{Number: 4, Members: []int{7}}, b, api.ErrEncoding)
}

// TestDecodeErrors tests each error, together with those that come after it.
func TestDecodeErrors(t *testing.T) {
	const big = 1<<64 - 1
	check := func(want api.Errno, b ...byte) {
		t.Helper()
		checkRefused(t, five(), b, want)
	}
	check(api.ErrTruncated)
	check(api.ErrTruncated, 0x80)
	check(api.ErrEncoding, 0x80, 0)
	check(api.ErrEncoding, 0x80, 0x80, 0x80, 0x80, 0x80, 0x80, 0x80, 0x80, 0x80, 2)
	for _, count := range []uint64{5001, 5002, 1 << 32, 1 << 63, big} {
		check(api.ErrLimit, pairs(count)...)
		check(api.ErrLimit, pairs(count, 2, 0)...)
		check(api.ErrLimit, append(pairs(count), 0x80, 0)...)
	}
	for _, count := range []uint64{1, 2, 5000} {
		check(api.ErrTruncated, pairs(count)...)
		check(api.ErrTruncated, pairs(count, 2)...)
		check(api.ErrTruncated, append(pairs(count), 0x80)...)
		check(api.ErrEncoding, append(pairs(count), 0x80, 0)...)
		check(api.ErrTruncated, append(pairs(count, 2), 0x80)...)
		check(api.ErrEncoding, append(pairs(count, 2), 0x80, 0)...)
		for _, subject := range []uint64{0, 1001, 1002, 1 << 32, 1<<32 + 2, 1 << 63, 1<<63 + 2, big} {
			check(api.ErrTruncated, pairs(count, subject)...) // the ring is read ahead of the subject's check
			check(api.ErrEncoding, pairs(count, subject, 0)...)
		}
		for _, ring := range []uint64{5, 6, 127, 128, 1 << 32, 1 << 63, 1<<63 + 1, big} {
			check(api.ErrEncoding, pairs(count, 2, ring)...)
			check(api.ErrEncoding, append(pairs(count, 2, ring), 0x80)...)
		}
	}
	one := api.View{Number: 1, Members: []int{6}}
	checkDecode(t, one, pairs(1, 7, 0), []api.Alert{{View: 1, Ring: 0, Observer: 6, Subject: 7}}, 3)
	checkRefused(t, one, pairs(1, 6, 0), api.ErrEncoding)
	checkRefused(t, one, pairs(5000), api.ErrTruncated)
}

// TestDecodeOrder lets alerts come twice or in the wrong order, ahead of other errors and after them.
func TestDecodeOrder(t *testing.T) {
	check := func(want api.Errno, count uint64, numbers ...uint64) {
		t.Helper()
		checkRefused(t, five(), pairs(count, numbers...), want)
	}
	for _, count := range []uint64{2, 3, 5000} {
		check(api.ErrEncoding, count, 2, 0, 2, 0)
		check(api.ErrEncoding, count, 2, 1, 2, 0)
		check(api.ErrEncoding, count, 4, 0, 2, 0)
		check(api.ErrEncoding, count, 4, 0, 2, 4)
		check(api.ErrEncoding, count, 1000, 4, 999, 4, 1001)
		check(api.ErrTruncated, count, 2, 1, 2)
		check(api.ErrEncoding, count, 2, 1, 2, 5)
		check(api.ErrEncoding, count, 2, 5, 2)
	}
	check(api.ErrEncoding, 3, 2, 0, 4, 0, 2, 1)
	check(api.ErrEncoding, 3, 2, 0, 4, 0, 4, 0)
	check(api.ErrEncoding, 4, 2, 0, 4, 0, 2, 1, 4)
	check(api.ErrTruncated, 4, 2, 0, 2, 1, 4, 0, 4)
	check(api.ErrTruncated, 4, 2, 0, 2, 1, 4, 0)
	checkDecode(t, five(), pairs(2, 2, 4, 4, 0), []api.Alert{{View: 12, Ring: 4, Observer: 40, Subject: 2}, {View: 12, Ring: 0, Observer: 2, Subject: 4}}, 5)
}

// expected decodes by the list of all valid alerts: the set has to go forward in it.
func expected(v api.View, possible []api.Alert, b []byte) (set []api.Alert, n int, err api.Errno) {
	count, n, err := wire.Uint(b)
	if err != api.OK {
		return nil, 0, err
	}
	if count > 5000 {
		return nil, 0, api.ErrLimit
	}
	ahead := -1
	for range count {
		var numbers [2]uint64
		for i := range numbers {
			number, size, err := wire.Uint(b[n:])
			if err != api.OK {
				return nil, 0, err
			}
			numbers[i] = number
			n += size
		}
		place := slices.IndexFunc(possible, func(a api.Alert) bool {
			return uint64(a.Subject) == numbers[0] && uint64(a.Ring) == numbers[1]
		})
		if place <= ahead {
			return nil, 0, api.ErrEncoding
		}
		ahead = place
		set = append(set, possible[place])
	}
	return set, n, api.OK
}

// TestDecodeAll goes through all strings of up to six of some bytes: the results are as expected, and what is decoded is encoded as what was read.
func TestDecodeAll(t *testing.T) {
	for _, v := range []api.View{{Number: 9, Members: []int{1, 2}}, {Number: 10, Members: []int{2}}} {
		decoded := 0
		possible := all(v)
		check := func(b []byte) {
			set, n, err := alerts.Decode(v, b)
			want, size, wanted := expected(v, possible, b)
			if err != wanted || n != size || !slices.Equal(set, want) {
				t.Fatalf("P6.4: Decode(%x) in %v = %v, %d, %d, not %v, %d, %d", b, v, set, n, err, want, size, wanted)
			}
			if err != api.OK {
				return
			}
			decoded++
			if again := alerts.Encode(v, set); !alerts.Valid(v, set) || !bytes.HasPrefix(b, again) || len(again) != n {
				t.Fatalf("P6.4: Decode(%x) in %v = %v, %d, which is encoded as %x", b, v, set, n, again)
			}
		}
		words := [][]byte{nil}
		for i := 0; i < len(words); i++ {
			check(words[i])
			if len(words[i]) == 6 {
				continue
			}
			for _, c := range []byte{0, 1, 2, 4, 5, 128} {
				words = append(words, append(slices.Clone(words[i]), c))
			}
		}
		for i := range 1 << 16 {
			check([]byte{1, byte(i >> 8), byte(i)})
			check([]byte{1, byte(i >> 8), byte(i), 3})
			check([]byte{byte(i >> 8), byte(i), 3, 0, 3, 1, 3, 2, 4, 4})
		}
		if decoded < 1000 {
			t.Errorf("P6.4: only %d strings were decoded in %v", decoded, v)
		}
	}
}

// TestDecodedSetsStay changes the bytes that were decoded, and the results.
func TestDecodedSetsStay(t *testing.T) {
	b := alerts.Encode(five(), letters())
	first, _, _ := alerts.Decode(five(), b)
	second, _, _ := alerts.Decode(five(), b)
	again := alerts.Encode(five(), first)
	for i := range b {
		b[i] = 0xff
	}
	first[0].Ring = 77
	if !slices.Equal(second, letters()) || !bytes.Equal(again, alerts.Encode(five(), letters())) {
		t.Errorf("P6.4: the results share memory: %v, %x", second, again)
	}
}
