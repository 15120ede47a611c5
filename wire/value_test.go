package wire_test

import (
	"bytes"
	"math"
	"strings"
	"testing"

	"actorgrid/api"
	"actorgrid/wire"
)

func validValues() []api.Value {
	longest := strings.Repeat("s", api.MaxString)
	full := make([]string, api.MaxList)
	for i := range full {
		full[i] = longest
	}
	return []api.Value{
		{Kind: api.Unit},
		{Kind: api.Int}, {Kind: api.Int, N: -1}, {Kind: api.Int, N: math.MaxInt}, {Kind: api.Int, N: math.MinInt},
		{Kind: api.Bool}, {Kind: api.Bool, N: 1},
		{Kind: api.String}, {Kind: api.String, S: "a"}, {Kind: api.String, S: "\x00\xff"}, {Kind: api.String, S: longest},
		{Kind: api.Ints}, {Kind: api.Ints, I: []int{}}, {Kind: api.Ints, I: []int{0}}, {Kind: api.Ints, I: []int{math.MinInt, 7}},
		{Kind: api.Ints, I: make([]int, api.MaxList)},
		{Kind: api.Strings}, {Kind: api.Strings, L: []string{}}, {Kind: api.Strings, L: []string{""}},
		{Kind: api.Strings, L: []string{"a", "", "bc"}}, {Kind: api.Strings, L: full},
	}
}

// invalidValues holds, for each kind, a value for every field that does not fit, and kinds that do not exist.
func invalidValues() []api.Value {
	long := strings.Repeat("s", api.MaxString+1)
	l := []api.Value{
		{Kind: -1}, {Kind: 6}, {Kind: 256}, {Kind: math.MinInt}, {Kind: math.MaxInt},
		{Kind: api.Bool, N: 2}, {Kind: api.Bool, N: -1}, {Kind: api.Bool, N: math.MinInt},
		{Kind: api.String, S: long},
		{Kind: api.Ints, I: make([]int, api.MaxList+1)},
		{Kind: api.Strings, L: make([]string, api.MaxList+1)},
		{Kind: api.Strings, L: []string{"a", long}}, {Kind: api.Strings, L: []string{long, "a"}},
	}
	for kind := api.Unit; kind <= api.Strings; kind++ {
		if kind != api.Int && kind != api.Bool {
			l = append(l, api.Value{Kind: kind, N: 1}, api.Value{Kind: kind, N: -1})
		}
		if kind != api.String {
			l = append(l, api.Value{Kind: kind, S: "a"})
		}
		if kind != api.Ints {
			l = append(l, api.Value{Kind: kind, I: []int{0}})
		}
		if kind != api.Strings {
			l = append(l, api.Value{Kind: kind, L: []string{""}})
		}
	}
	return l
}

func TestValidValue(t *testing.T) {
	for _, v := range validValues() {
		if !wire.ValidValue(v) {
			t.Errorf("P1.3: %v is not valid", v)
		}
		empty := v
		if len(v.I) == 0 {
			empty.I = []int{}
		}
		if len(v.L) == 0 {
			empty.L = []string{}
		}
		if !wire.ValidValue(empty) || !wire.SameValue(v, empty) {
			t.Errorf("P1.3: %v with empty lists is not valid, or not the same", v)
		}
	}
	for _, v := range invalidValues() {
		if wire.ValidValue(v) {
			t.Errorf("P1.3: %v is valid", v)
		}
		if b := wire.AppendValue([]byte{1}, v); b != nil {
			t.Errorf("P1.3: AppendValue(%v) = %x", v, b)
		}
	}
}

func TestSameValue(t *testing.T) {
	all := append(validValues(), invalidValues()...)
	for i, v := range all {
		if !wire.SameValue(v, v) {
			t.Errorf("P1.3: value %d is not the same as itself", i)
		}
	}
	v := api.Value{Kind: api.Strings, N: 1, S: "s", I: []int{1, 2}, L: []string{"a", "b"}}
	for _, w := range []api.Value{
		{Kind: api.Ints, N: 1, S: "s", I: []int{1, 2}, L: []string{"a", "b"}},
		{Kind: api.Strings, N: 2, S: "s", I: []int{1, 2}, L: []string{"a", "b"}},
		{Kind: api.Strings, N: 1, S: "t", I: []int{1, 2}, L: []string{"a", "b"}},
		{Kind: api.Strings, N: 1, S: "s", I: []int{1, 3}, L: []string{"a", "b"}},
		{Kind: api.Strings, N: 1, S: "s", I: []int{1}, L: []string{"a", "b"}},
		{Kind: api.Strings, N: 1, S: "s", I: []int{1, 2, 0}, L: []string{"a", "b"}},
		{Kind: api.Strings, N: 1, S: "s", I: []int{1, 2}, L: []string{"b", "a"}},
		{Kind: api.Strings, N: 1, S: "s", I: []int{1, 2}, L: []string{"a"}},
		{Kind: api.Strings, N: 1, S: "s", I: []int{1, 2}, L: []string{"a", "b", ""}},
	} {
		if wire.SameValue(v, w) || wire.SameValue(w, v) {
			t.Errorf("P1.3: %v and %v are the same", v, w)
		}
	}
}

func TestValueEncodings(t *testing.T) {
	for _, c := range []struct {
		v api.Value
		b []byte
	}{
		{api.Value{}, []byte{0}},
		{api.Value{Kind: api.Int}, []byte{1, 0}},
		{api.Value{Kind: api.Int, N: -1}, []byte{1, 1}},
		{api.Value{Kind: api.Int, N: 64}, []byte{1, 128, 1}},
		{api.Value{Kind: api.Bool}, []byte{2, 0}},
		{api.Value{Kind: api.Bool, N: 1}, []byte{2, 1}},
		{api.Value{Kind: api.String}, []byte{3, 0}},
		{api.Value{Kind: api.String, S: "ab"}, []byte{3, 2, 'a', 'b'}},
		{api.Value{Kind: api.Ints}, []byte{4, 0}},
		{api.Value{Kind: api.Ints, I: []int{1, -64}}, []byte{4, 2, 2, 127}},
		{api.Value{Kind: api.Strings}, []byte{5, 0}},
		{api.Value{Kind: api.Strings, L: []string{"a", ""}}, []byte{5, 2, 1, 'a', 0}},
	} {
		if got := wire.AppendValue(nil, c.v); !bytes.Equal(got, c.b) {
			t.Errorf("P1.3: AppendValue(%v) = %x, not %x", c.v, got, c.b)
		}
		for _, in := range inputs(c.b) {
			if v, n, err := wire.Value(in); !wire.SameValue(v, c.v) || n != len(c.b) || err != api.OK {
				t.Errorf("P1.3: Value(%x) = %v, %d, %d", in, v, n, err)
			}
		}
	}
}

func TestValueErrors(t *testing.T) {
	for _, c := range []struct {
		b   []byte
		err api.Errno
	}{
		{nil, api.ErrTruncated},
		{[]byte{}, api.ErrTruncated},
		{[]byte{6}, api.ErrEncoding},
		{[]byte{255, 0}, api.ErrEncoding},
		{[]byte{api.Int}, api.ErrTruncated},
		{[]byte{api.Int, 128, 0}, api.ErrEncoding},
		{[]byte{api.Bool}, api.ErrTruncated},
		{[]byte{api.Bool, 2}, api.ErrEncoding},
		{[]byte{api.Bool, 129, 0}, api.ErrEncoding},
		{[]byte{api.String}, api.ErrTruncated},
		{[]byte{api.String, 128, 0}, api.ErrEncoding},
		{[]byte{api.String, api.MaxString + 1}, api.ErrLimit},
		{[]byte{api.String, api.MaxString}, api.ErrTruncated},
		{[]byte{api.Ints}, api.ErrTruncated},
		{[]byte{api.Ints, api.MaxList + 1}, api.ErrLimit},
		{[]byte{api.Ints, api.MaxList}, api.ErrTruncated},
		{[]byte{api.Ints, 1, 128, 0}, api.ErrEncoding},
		{[]byte{api.Strings}, api.ErrTruncated},
		{[]byte{api.Strings, api.MaxList + 1}, api.ErrLimit},
		{[]byte{api.Strings, 1, api.MaxString + 1}, api.ErrLimit},
		{[]byte{api.Strings, 1, 1}, api.ErrTruncated},
	} {
		if v, n, err := wire.Value(c.b); !wire.SameValue(v, api.Value{}) || n != 0 || err != c.err {
			t.Errorf("P1.3: Value(%x) = %v, %d, %d, want the error %d", c.b, v, n, err, c.err)
		}
	}
}
