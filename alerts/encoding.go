package alerts

import (
	"actorgrid/api"
	"actorgrid/view"
	"actorgrid/wire"
)

// A valid set has at most one alert for each subject and ring.
const maxAlerts = api.Rings * api.MaxMemberID

// Encode returns the canonical encoding of a set, or nil if it is not valid in the view.
func Encode(v api.View, set []api.Alert) []byte {
	if !Valid(v, set) {
		return nil
	}
	b := wire.AppendUint(nil, uint64(len(set)))
	for _, a := range set {
		// The functions of wire copy the bytes that they append to, so they are not given all that are there already.
		subject := wire.AppendUint(nil, uint64(a.Subject))
		b = append(b, wire.AppendUint(subject, uint64(a.Ring))...)
	}
	return b
}

// Decode decodes the set at the beginning of b and returns the length of its encoding.
func Decode(v api.View, b []byte) (set []api.Alert, n int, err api.Errno) {
	if !view.Valid(v) {
		return nil, 0, api.ErrInvalid
	}
	count, n, err := wire.Uint(b)
	if err != api.OK {
		return nil, 0, err
	}
	if count > maxAlerts {
		return nil, 0, api.ErrLimit
	}
	var possible []api.Alert
	for range count {
		subject, ring, size, err := pair(b[n:])
		if err != api.OK {
			return nil, 0, err
		}
		if len(possible) == 0 || uint64(possible[0].Subject) != subject {
			possible = aboutNumber(v, subject)
		}
		if ring >= uint64(len(possible)) || !follows(set, possible[ring]) {
			return nil, 0, api.ErrEncoding
		}
		set = append(set, possible[ring])
		n += size
	}
	return set, n, api.OK
}

// pair decodes two numbers.
func pair(b []byte) (first, second uint64, n int, err api.Errno) {
	first, n, err = wire.Uint(b)
	if err != api.OK {
		return 0, 0, 0, err
	}
	second, size, err := wire.Uint(b[n:])
	if err != api.OK {
		return 0, 0, 0, err
	}
	return first, second, n + size, api.OK
}

// aboutNumber is about for a decoded number, which may be too great for an identifier.
func aboutNumber(v api.View, subject uint64) []api.Alert {
	if subject > api.MaxMemberID {
		return nil
	}
	return about(v, int(subject))
}
