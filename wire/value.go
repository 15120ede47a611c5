package wire

import (
	"slices"

	"actorgrid/api"
)

// ValidValue reports whether the kind of v is known, its contents keep the limits, and the fields that the kind does not use are zero.
func ValidValue(v api.Value) bool {
	unused := v
	fits := true
	switch v.Kind {
	case api.Unit:
	case api.Int:
		unused.N = 0
	case api.Bool:
		unused.N = 0
		fits = v.N == 0 || v.N == 1
	case api.String:
		unused.S = ""
		fits = len(v.S) <= api.MaxString
	case api.Ints:
		unused.I = nil
		fits = len(v.I) <= api.MaxList
	case api.Strings:
		unused.L = nil
		fits = len(v.L) <= api.MaxList && !slices.ContainsFunc(v.L, tooLong)
	default:
		return false
	}
	return fits && unused.N == 0 && unused.S == "" && len(unused.I) == 0 && len(unused.L) == 0
}

func tooLong(s string) bool {
	return len(s) > api.MaxString
}

// SameValue reports whether two values have the same kind, number, string and list elements.
func SameValue(v, w api.Value) bool {
	return v.Kind == w.Kind && v.N == w.N && v.S == w.S && slices.Equal(v.I, w.I) && slices.Equal(v.L, w.L)
}

// AppendValue appends the kind of v and its contents; it returns nil if v is not valid.
func AppendValue(b []byte, v api.Value) []byte {
	if !ValidValue(v) {
		return nil
	}
	out := append(grown(b, 1+maxUint), byte(v.Kind))
	switch v.Kind {
	case api.Int:
		return putInt(out, v.N)
	case api.Bool:
		return append(out, byte(v.N))
	case api.String:
		return putString(out, v.S)
	case api.Ints:
		return AppendInts(out, v.I)
	case api.Strings:
		return AppendStrings(out, v.L)
	}
	return out
}

// Value decodes a value.
func Value(b []byte) (v api.Value, n int, err api.Errno) {
	if len(b) == 0 {
		return api.Value{}, 0, api.ErrTruncated
	}
	v.Kind = int(b[0])
	contents := b[1:]
	switch v.Kind {
	case api.Unit:
	case api.Int:
		v.N, n, err = Int(contents)
	case api.Bool:
		v.N, n, err = truth(contents)
	case api.String:
		v.S, n, err = String(contents, api.MaxString)
	case api.Ints:
		v.I, n, err = IntList(contents, api.MaxList)
	case api.Strings:
		v.L, n, err = StringList(contents, api.MaxList)
	default:
		err = api.ErrEncoding
	}
	if err != api.OK {
		return api.Value{}, 0, err
	}
	return v, 1 + n, api.OK
}

// truth decodes the contents of a Bool.
func truth(b []byte) (v int, n int, err api.Errno) {
	if len(b) == 0 {
		return 0, 0, api.ErrTruncated
	}
	if b[0] > 1 {
		return 0, 0, api.ErrEncoding
	}
	return int(b[0]), 1, api.OK
}
