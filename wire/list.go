package wire

import "actorgrid/api"

// AppendString appends the length of s and its bytes.
func AppendString(b []byte, s string) []byte {
	return putString(grown(b, maxUint+len(s)), s)
}

// String decodes a string of at most max bytes.
func String(b []byte, max int) (s string, n int, err api.Errno) {
	size, n, err := length(b, max)
	if err != api.OK {
		return "", 0, err
	}
	if len(b)-n < size {
		return "", 0, api.ErrTruncated
	}
	return string(b[n : n+size]), n + size, api.OK
}

// AppendInts appends the number of elements of l and the elements.
func AppendInts(b []byte, l []int) []byte {
	out := putUint(grown(b, maxUint+len(l)), uint64(len(l)))
	for _, v := range l {
		out = putInt(out, v)
	}
	return out
}

// IntList decodes a list of at most max numbers.
func IntList(b []byte, max int) (l []int, n int, err api.Errno) {
	return list(b, max, Int)
}

// AppendStrings appends the number of elements of l and the elements.
func AppendStrings(b []byte, l []string) []byte {
	out := putUint(grown(b, maxUint+len(l)), uint64(len(l)))
	for _, s := range l {
		out = putString(out, s)
	}
	return out
}

// StringList decodes a list of at most max strings, each of at most MaxString bytes.
func StringList(b []byte, max int) (l []string, n int, err api.Errno) {
	return list(b, max, shortString)
}

func putString(b []byte, s string) []byte {
	return append(putUint(b, uint64(len(s))), s...)
}

func shortString(b []byte) (s string, n int, err api.Errno) {
	return String(b, api.MaxString)
}

// length decodes a number of bytes or elements that is at most max.
func length(b []byte, max int) (size int, n int, err api.Errno) {
	if max < 0 {
		return 0, 0, api.ErrInvalid
	}
	u, n, err := Uint(b)
	if err != api.OK {
		return 0, 0, err
	}
	if u > uint64(max) {
		return 0, 0, api.ErrLimit
	}
	return int(u), n, api.OK
}

// list reserves no memory for the elements ahead: their number may be a claim that the bytes after it do not keep.
func list[T any](b []byte, max int, element func([]byte) (T, int, api.Errno)) (l []T, n int, err api.Errno) {
	count, n, err := length(b, max)
	if err != api.OK {
		return nil, 0, err
	}
	for range count {
		v, size, err := element(b[n:])
		if err != api.OK {
			return nil, 0, err
		}
		l = append(l, v)
		n += size
	}
	return l, n, api.OK
}
