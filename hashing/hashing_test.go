package hashing_test

import (
	"hash/fnv"
	"math"
	"strings"
	"testing"

	"actorgrid/api"
	"actorgrid/hashing"
)

const greatest = math.MaxUint64

// words are zero, the greatest word, all words of one bit and their complements and neighbours, and some without a pattern (a product with an odd number, so that they are distinct).
func words() []uint64 {
	ws := []uint64{0, greatest, 12345, 0xbf58476d1ce4e5b9, 0x94d049bb133111eb, 0x9e3779b97f4a7c15}
	for i := range 64 {
		bit := uint64(1) << i
		ws = append(ws, bit, bit-1, bit+1, ^bit)
	}
	for i := range uint64(2000) {
		ws = append(ws, (i+1)*0xd1342543de82ef95)
	}
	return ws
}

// mixed follows the text of P2.1 step by step.
func mixed(x uint64) uint64 {
	x = x ^ (x >> 30)
	x = x * 0xbf58476d1ce4e5b9
	x = x ^ (x >> 27)
	x = x * 0x94d049bb133111eb
	x = x ^ (x >> 31)
	return x
}

func TestMix(t *testing.T) {
	for _, c := range []struct{ x, want uint64 }{
		{0, 0},
		{1, 0x5692161d100b05e5},
		{2, 0xdbd238973a2b148a},
		{12345, 0xf36cf1164265dd51},
		{1 << 27, 0xf5e56547bf03e35f},
		{1 << 30, 0x2ba0091cc9e3ceff},
		{1 << 31, 0xec105bf588587c9f},
		{1 << 63, 0x25c26ea579cea98a},
		{greatest - 1, 0xda26e52fa3730902},
		{greatest, 0xb4d055fcf2cbbd7b},
	} {
		if got := hashing.Mix(c.x); got != c.want {
			t.Errorf("P2.1: Mix(%#x) = %#x, not %#x", c.x, got, c.want)
		}
		if got := hashing.Unmix(c.want); got != c.x {
			t.Errorf("P2.1: Unmix(%#x) = %#x, not %#x", c.want, got, c.x)
		}
	}
	for _, x := range words() {
		if got, want := hashing.Mix(x), mixed(x); got != want {
			t.Errorf("P2.1: Mix(%#x) = %#x, not %#x", x, got, want)
		}
	}
}

func TestCombine(t *testing.T) {
	// The first five are outputs of the splitmix64 generator with the seeds 0 and 1234567.
	for _, c := range []struct{ h, x, want uint64 }{
		{0, 0, 0xe220a8397b1dcdaf},
		{0, 1, 0x6e789e6aa1b965f4},
		{1234567, 0, 6457827717110365317},
		{1234567, 1, 3203168211198807973},
		{1234567, 2, 9817491932198370423},
		{1, 0, 0x910a2dec89025cc1},
		{5, 7, 0x82d78c130699ef2b},
		{7, 5, 0x3fdabe86cbbeaa11},
		{0, greatest, 0},
		{1, greatest, 0x5692161d100b05e5},
		{greatest, 0, 0xe4d971771b652c20},
		{greatest, greatest, 0xb4d055fcf2cbbd7b},
		{1 << 63, 1 << 63, 0xe220a8397b1dcdaf},
	} {
		if got := hashing.Combine(c.h, c.x); got != c.want {
			t.Errorf("P2.2: Combine(%#x, %#x) = %#x, not %#x", c.h, c.x, got, c.want)
		}
	}
	for i, h := range words() {
		x := hashing.Mix(uint64(i))
		if got, want := hashing.Combine(h, x), mixed(h+0x9e3779b97f4a7c15*(x+1)); got != want {
			t.Errorf("P2.2: Combine(%#x, %#x) = %#x, not %#x", h, x, got, want)
		}
	}
}

func TestText(t *testing.T) {
	for _, c := range []struct {
		s    string
		want uint64
	}{
		{"", 0xf52a15e9a9b5e89b},
		{"a", 0x2c0bdbf481420f8},
		{"ab", 0x9ffe50a657e4a147},
		{"ba", 0x9d8678b81c1f9e8a},
		{"foobar", 0x404da9e3b74078c2},
		{"Account", 0x224a7d014b804d28},
		{"\x00", 0x25fc6dd36ce04b20},
		{"\x00\x00", 0x7bc210046bd616cc},
		{"\xff", 0x4f2db50f124040cd},
		{"é", 0x233403617480019e},
		{"a\xff\x80b", 0x5dba500644bd71ba},
		{strings.Repeat("x", 1000), 0x82d7935ebaec8a6a},
	} {
		if got := hashing.Text(c.s); got != c.want {
			t.Errorf("P2.2: Text(%.20q) = %#x, not %#x", c.s, got, c.want)
		}
	}
	for c := range 256 {
		for n := range 20 {
			s := strings.Repeat(string([]byte{byte(c), byte(255 - c), byte(n)}), n)
			h := fnv.New64a()
			h.Write([]byte(s))
			if got, want := hashing.Text(s), mixed(h.Sum64()); got != want {
				t.Errorf("P2.2: Text(%q) = %#x, not %#x", s, got, want)
			}
		}
	}
}

func TestPosition(t *testing.T) {
	for _, c := range []struct {
		ring, id int
		want     uint64
	}{
		{0, 0, 0xe220a8397b1dcdaf},
		{0, 1, 0x6e789e6aa1b965f4},
		{1, 1, 0xbeeb8da1658eec67},
		{3, 16, 0x4e5990fae0287de6},
		{api.Rings - 1, api.MaxMemberID, 0x847479dd411b7833},
		{-1, 1, 0xe99ff867dbf682c9},
		{1, -1, 0x5692161d100b05e5},
		{-1, -1, 0xb4d055fcf2cbbd7b},
		{math.MinInt, math.MinInt, 0xe220a8397b1dcdaf},
		{math.MaxInt, math.MaxInt, 0xb4d055fcf2cbbd7b},
	} {
		if got := hashing.Position(c.ring, c.id); got != c.want {
			t.Errorf("P2.3: Position(%d, %d) = %#x, not %#x", c.ring, c.id, got, c.want)
		}
	}
}

func TestToken(t *testing.T) {
	for _, c := range []struct {
		member, i int
		want      uint64
	}{
		{0, 0, 0x75cff07439ed3eb1},
		{1, 0, 0xb7ab3e8a92488561},
		{1, 7, 0x3266e95bfb920b63},
		{7, 1, 0x7ba2008f98a12976},
		{api.MaxMemberID, api.Tokens - 1, 0x2a64b9608018d0d4},
		{-1, 0, 0x7b5218a74b41fbc2},
		{0, -1, 0x80d2f5de416d2ebd},
		{-1, -1, 0xabeac3e7e0bbcb7e},
		{math.MinInt, math.MaxInt, 0x65f63d5cad508364},
		{math.MaxInt, math.MinInt, 0x5fbbb0d29640855},
	} {
		if got := hashing.Token(c.member, c.i); got != c.want {
			t.Errorf("P2.3: Token(%d, %d) = %#x, not %#x", c.member, c.i, got, c.want)
		}
	}
}

func TestActor(t *testing.T) {
	for _, c := range []struct {
		typ, key string
		want     uint64
	}{
		{"", "", 0xab1397ba49f28335},
		{"Account", "a", 0x4438a5ff0c85435},
		{"Account", "b", 0xac7bb93c01beb9bd},
		{"a", "Account", 0xd0348e3ba55a6191},
		{"Hub", "", 0x94d20a3d7d04d0a4},
		{"", "Hub", 0x1d0cdf6417c6c6d},
		{"ab", "c", 0xec0239128267f4a6},
		{"a", "bc", 0x8e5b6b67a1c16e26},
		{"\xff", "\x00", 0x9fa2bdb8f6b76803},
	} {
		if got := hashing.Actor(api.Ref{Type: c.typ, Key: c.key}); got != c.want {
			t.Errorf("P2.3: Actor of %q and %q = %#x, not %#x", c.typ, c.key, got, c.want)
		}
	}
}

func TestBijection(t *testing.T) {
	of := map[uint64]uint64{}
	for _, x := range words() {
		y := hashing.Mix(x)
		if other, found := of[y]; found && other != x {
			t.Errorf("P2.4: Mix(%#x) = Mix(%#x)", x, other)
		}
		of[y] = x
		if got := hashing.Unmix(y); got != x {
			t.Errorf("P2.4: Unmix(Mix(%#x)) = %#x", x, got)
		}
		if got := hashing.Mix(hashing.Unmix(x)); got != x {
			t.Errorf("P2.4: Mix(Unmix(%#x)) = %#x", x, got)
		}
	}
}

// TestInjective gets each argument of Combine back from its result and the other argument.
func TestInjective(t *testing.T) {
	const stride, inverse = 0x9e3779b97f4a7c15, 0xf1de83e19937733d
	fixed := []uint64{0, 1, 12345, 1 << 63, greatest - 1, greatest}
	for _, w := range words() {
		for _, f := range fixed {
			if got := hashing.Unmix(hashing.Combine(w, f)) - stride*(f+1); got != w {
				t.Errorf("P2.4: Combine(%#x, %#x) is that of the first argument %#x", w, f, got)
			}
			if got := (hashing.Unmix(hashing.Combine(f, w))-f)*inverse - 1; got != w {
				t.Errorf("P2.4: Combine(%#x, %#x) is that of the second argument %#x", f, w, got)
			}
		}
	}
}

func TestPositionsDiffer(t *testing.T) {
	for ring := -1; ring <= api.Rings; ring++ {
		at := map[uint64]int{}
		for id := -api.MaxMemberID; id <= 2*api.MaxMemberID; id++ {
			p := hashing.Position(ring, id)
			if other, found := at[p]; found {
				t.Errorf("P2.4: %d and %d have one Position on ring %d", other, id, ring)
			}
			at[p] = id
		}
	}
}
