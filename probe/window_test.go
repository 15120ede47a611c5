package probe_test

import (
	"math"
	"testing"

	"actorgrid/api"
	"actorgrid/probe"
)

const (
	least    = math.MinInt
	greatest = math.MaxInt
)

// counts are the numbers of outcomes that the tests ask about; only those from 0 to api.Window are possible.
func counts() []int {
	l := []int{least, least + 1, -64, -32, -2, -1}
	for n := range 70 {
		l = append(l, n)
	}
	return append(l, 1<<32, 1<<32+3, greatest-1, greatest)
}

// someBits are all words of twelve bits, and words with a higher bit as well.
func someBits() []uint32 {
	var l []uint32
	for w := range uint32(1 << 12) {
		l = append(l, w)
	}
	for shift := 12; shift < 32; shift++ {
		l = append(l, 1<<shift, 1<<shift+1, 1<<shift+15, 1<<shift-1)
	}
	return append(l, math.MaxUint32, math.MaxUint32-15)
}

// outcomes returns the failures of a window, the latest outcome first.
func outcomes(w api.ProbeWindow) []bool {
	l := []bool{}
	for i := range w.Count {
		l = append(l, w.Bits>>i%2 == 1)
	}
	return l
}

// windowOf returns the window with the given failures, the latest outcome first.
func windowOf(failures []bool) api.ProbeWindow {
	w := api.ProbeWindow{Count: len(failures)}
	place := uint32(1)
	for _, failed := range failures {
		if failed {
			w.Bits += place
		}
		place *= 2
	}
	return w
}

func number(failures []bool) int {
	n := 0
	for _, failed := range failures {
		if failed {
			n++
		}
	}
	return n
}

// validWindows are all possible windows: one for each list of at most api.Window outcomes.
func validWindows() []api.ProbeWindow {
	lists := [][]bool{{}}
	var ws []api.ProbeWindow
	for i := 0; i < len(lists); i++ {
		ws = append(ws, windowOf(lists[i]))
		if len(lists[i]) == api.Window {
			continue
		}
		for _, failed := range []bool{false, true} {
			lists = append(lists, append([]bool{failed}, lists[i]...))
		}
	}
	return ws
}

func TestValidWindow(t *testing.T) {
	for _, c := range []struct {
		w    api.ProbeWindow
		want bool
	}{
		{api.ProbeWindow{}, true}, {api.ProbeWindow{Bits: 1}, false}, {api.ProbeWindow{Count: 1}, true},
		{api.ProbeWindow{Bits: 1, Count: 1}, true}, {api.ProbeWindow{Bits: 2, Count: 1}, false}, {api.ProbeWindow{Bits: 3, Count: 2}, true},
		{api.ProbeWindow{Bits: 511, Count: 9}, true}, {api.ProbeWindow{Bits: 512, Count: 9}, false},
		{api.ProbeWindow{Count: 10}, true}, {api.ProbeWindow{Bits: 1023, Count: 10}, true}, {api.ProbeWindow{Bits: 1024, Count: 10}, false},
		{api.ProbeWindow{Count: 11}, false}, {api.ProbeWindow{Bits: 1, Count: 11}, false}, {api.ProbeWindow{Bits: 2047, Count: 11}, false},
		{api.ProbeWindow{Count: -1}, false}, {api.ProbeWindow{Bits: 1, Count: -1}, false}, {api.ProbeWindow{Count: 32}, false}, {api.ProbeWindow{Count: 64}, false},
		{api.ProbeWindow{Bits: math.MaxUint32, Count: 10}, false}, {api.ProbeWindow{Bits: 1 << 31, Count: 10}, false}, {api.ProbeWindow{Count: greatest}, false}, {api.ProbeWindow{Count: least}, false},
	} {
		if got := probe.ValidWindow(c.w); got != c.want {
			t.Errorf("P5.1: ValidWindow(%v) = %v", c.w, got)
		}
	}
}

// TestAllWindows compares ValidWindow with the list of the possible windows.
func TestAllWindows(t *testing.T) {
	possible := map[api.ProbeWindow]bool{}
	for _, w := range validWindows() {
		possible[w] = true
	}
	if len(possible) != 2047 {
		t.Fatalf("P5.1: the tests know %d windows", len(possible))
	}
	found := 0
	for _, count := range counts() {
		for _, bits := range someBits() {
			w := api.ProbeWindow{Bits: bits, Count: count}
			if got := probe.ValidWindow(w); got != possible[w] {
				t.Errorf("P5.1: ValidWindow(%v) = %v", w, got)
			}
			if possible[w] {
				found++
			}
		}
	}
	if found != len(possible) {
		t.Errorf("P5.1: %d of %d possible windows were asked about", found, len(possible))
	}
}

func TestRecord(t *testing.T) {
	for _, c := range []struct {
		w    api.ProbeWindow
		ok   bool
		want api.ProbeWindow
	}{
		{api.ProbeWindow{}, true, api.ProbeWindow{Count: 1}}, {api.ProbeWindow{}, false, api.ProbeWindow{Bits: 1, Count: 1}},
		{api.ProbeWindow{Bits: 1, Count: 1}, true, api.ProbeWindow{Bits: 2, Count: 2}}, {api.ProbeWindow{Bits: 1, Count: 1}, false, api.ProbeWindow{Bits: 3, Count: 2}},
		{api.ProbeWindow{Bits: 5, Count: 3}, true, api.ProbeWindow{Bits: 10, Count: 4}}, {api.ProbeWindow{Bits: 5, Count: 3}, false, api.ProbeWindow{Bits: 11, Count: 4}},
		{api.ProbeWindow{Bits: 511, Count: 9}, true, api.ProbeWindow{Bits: 1022, Count: 10}}, {api.ProbeWindow{Bits: 511, Count: 9}, false, api.ProbeWindow{Bits: 1023, Count: 10}},
		{api.ProbeWindow{Bits: 1023, Count: 10}, true, api.ProbeWindow{Bits: 1022, Count: 10}}, {api.ProbeWindow{Bits: 1023, Count: 10}, false, api.ProbeWindow{Bits: 1023, Count: 10}},
		{api.ProbeWindow{Bits: 512, Count: 10}, true, api.ProbeWindow{Count: 10}}, {api.ProbeWindow{Bits: 512, Count: 10}, false, api.ProbeWindow{Bits: 1, Count: 10}},
		{api.ProbeWindow{Bits: 682, Count: 10}, true, api.ProbeWindow{Bits: 340, Count: 10}},
	} {
		if got := probe.Record(c.w, c.ok); got != c.want {
			t.Errorf("P5.1: Record(%v, %v) = %v, not %v", c.w, c.ok, got, c.want)
		}
	}
}

func TestRecordInAllWindows(t *testing.T) {
	for _, w := range validWindows() {
		for _, ok := range []bool{false, true} {
			latest := append([]bool{!ok}, outcomes(w)...)
			want := windowOf(latest[:min(len(latest), api.Window)])
			if got := probe.Record(w, ok); got != want {
				t.Errorf("P5.1: Record(%v, %v) = %v, not %v", w, ok, got, want)
			}
		}
	}
}

func TestFailing(t *testing.T) {
	for _, c := range []struct {
		w    api.ProbeWindow
		want bool
	}{
		{api.ProbeWindow{}, false}, {api.ProbeWindow{Bits: 15, Count: 4}, false}, {api.ProbeWindow{Bits: 511, Count: 9}, false},
		{api.ProbeWindow{Count: 10}, false}, {api.ProbeWindow{Bits: 7, Count: 10}, false}, {api.ProbeWindow{Bits: 15, Count: 10}, true},
		{api.ProbeWindow{Bits: 0b1110000000, Count: 10}, false}, {api.ProbeWindow{Bits: 0b1111000000, Count: 10}, true},
		{api.ProbeWindow{Bits: 0b1001001001, Count: 10}, true}, {api.ProbeWindow{Bits: 0b1001000001, Count: 10}, false}, {api.ProbeWindow{Bits: 1023, Count: 10}, true},
		{api.ProbeWindow{Bits: 1024 + 15, Count: 10}, false}, {api.ProbeWindow{Bits: 2047, Count: 11}, false}, {api.ProbeWindow{Bits: math.MaxUint32, Count: 10}, false},
	} {
		if got := probe.Failing(c.w); got != c.want {
			t.Errorf("P5.1: Failing(%v) = %v", c.w, got)
		}
	}
	for _, w := range validWindows() {
		l := outcomes(w)
		if got, want := probe.Failing(w), len(l) == api.Window && number(l) >= api.Failures; got != want {
			t.Errorf("P5.1: Failing(%v) = %v", w, got)
		}
	}
}

func TestInvalidWindows(t *testing.T) {
	possible := map[api.ProbeWindow]bool{}
	for _, w := range validWindows() {
		possible[w] = true
	}
	for _, count := range counts() {
		for _, bits := range someBits() {
			w := api.ProbeWindow{Bits: bits, Count: count}
			if possible[w] {
				continue
			}
			if got, other := probe.Record(w, true), probe.Record(w, false); got != (api.ProbeWindow{}) || other != (api.ProbeWindow{}) {
				t.Errorf("P5.1: Record of the invalid window %v is %v or %v", w, got, other)
			}
			if probe.Failing(w) {
				t.Errorf("P5.1: the invalid window %v is failing", w)
			}
		}
	}
}
