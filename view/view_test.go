package view_test

import (
	"math"
	"slices"
	"testing"

	"actorgrid/api"
	"actorgrid/view"
)

const (
	least    = math.MinInt
	greatest = math.MaxInt
)

// span returns the identifiers from one to another one.
func span(from, to int) []int {
	var l []int
	for id := from; id <= to; id++ {
		l = append(l, id)
	}
	return l
}

// chosen returns the identifiers whose bits are set: bit i stands for i + 1.
func chosen(set uint) []int {
	var l []int
	for i := range 32 {
		if set>>i&1 == 1 {
			l = append(l, i+1)
		}
	}
	return l
}

func full(number int) api.View {
	return api.View{Number: number, Members: span(1, api.MaxMembers)}
}

// badLists are neither lists of members nor cuts.
func badLists() [][]int {
	return [][]int{
		nil, {}, {0}, {-1}, {least}, {greatest}, {api.MaxMemberID + 1},
		{0, 1}, {-1, 1}, {1, 1}, {2, 1}, {1, 3, 2}, {1, 2, 2}, {2, 3, 1}, {5, 0}, {1, api.MaxMemberID + 1},
		span(api.MaxMemberID-3, api.MaxMemberID+1), span(0, 9),
	}
}

func badViews() []api.View {
	vs := []api.View{
		{Number: -1, Members: []int{1, 2, 3}},
		{Number: least, Members: []int{1}},
		{Number: api.MaxNumber + 1, Members: []int{1, 2, 3}},
		{Number: greatest, Members: []int{1}},
		{Number: 0, Members: span(1, api.MaxMembers+1)},
		{},
	}
	for _, l := range badLists() {
		vs = append(vs, api.View{Number: 3, Members: l})
	}
	return vs
}

func badCuts() [][]int {
	return append(badLists(), span(1, 2*api.MaxMembers+1), span(1, api.MaxMemberID))
}

func TestValid(t *testing.T) {
	for _, l := range [][]int{{1}, {api.MaxMemberID}, {1, api.MaxMemberID}, {3, 7, 500}, span(1, api.MaxMembers), span(api.MaxMemberID-api.MaxMembers+1, api.MaxMemberID)} {
		if !view.ValidMembers(l) || !view.ValidCut(l) {
			t.Errorf("P3.2: %v is a list of members and a cut", l)
		}
		for _, number := range []int{0, 1, api.MaxNumber} {
			if !view.Valid(api.View{Number: number, Members: l}) {
				t.Errorf("P3.2: the view %d with the members %v is valid", number, l)
			}
		}
	}
	for n := api.MaxMembers + 1; n <= 2*api.MaxMembers; n++ {
		if l := span(1, n); view.ValidMembers(l) || !view.ValidCut(l) {
			t.Errorf("P3.2: %d identifiers are a cut and no list of members", n)
		}
	}
	for _, l := range badLists() {
		if view.ValidMembers(l) {
			t.Errorf("P3.2: %v is no list of members", l)
		}
	}
	for _, cut := range badCuts() {
		if view.ValidCut(cut) {
			t.Errorf("P3.2: %v is no cut", cut)
		}
	}
	for _, v := range badViews() {
		if view.Valid(v) {
			t.Errorf("P3.2: %v is no view", v)
		}
	}
}

func TestSearch(t *testing.T) {
	for _, c := range []struct {
		l     []int
		id    int
		place int
	}{
		{nil, 0, -1}, {[]int{}, 1, -1}, {[]int{1}, 1, 0}, {[]int{1}, 0, -1}, {[]int{1}, 2, -1},
		{[]int{1, 2, 3}, 1, 0}, {[]int{1, 2, 3}, 2, 1}, {[]int{1, 2, 3}, 3, 2}, {[]int{1, 2, 4}, 3, -1},
		{[]int{5, 3, 9, 1}, 5, 0}, {[]int{5, 3, 9, 1}, 1, 3}, {[]int{5, 3, 9, 1}, 9, 2}, {[]int{5, 3, 9, 1}, 4, -1},
		{[]int{7, 2, 7, 2}, 7, 0}, {[]int{7, 2, 7, 2}, 2, 1}, {[]int{4, 4, 4}, 4, 0},
		{[]int{0, -5, least, greatest}, greatest, 3}, {[]int{0, -5, least, greatest}, least, 2}, {[]int{0, -5, least, greatest}, -5, 1}, {[]int{0, -5}, 5, -1},
		{span(1, 5000), 5000, 4999},
	} {
		if got := view.Place(c.l, c.id); got != c.place {
			t.Errorf("P3.1: Place(%v, %d) = %d, not %d", c.l, c.id, got, c.place)
		}
		if got := view.Contains(c.l, c.id); got != (c.place >= 0) {
			t.Errorf("P3.1: Contains(%v, %d) = %v", c.l, c.id, got)
		}
	}
}

func TestQuorums(t *testing.T) {
	majorities := []int{0, 1, 2, 2, 3, 3, 4, 4, 5, 5, 6, 6, 7, 7, 8, 8, 9}
	fast := []int{0, 1, 2, 3, 4, 4, 5, 6, 7, 7, 8, 9, 10, 10, 11, 12, 13}
	for n := range api.MaxMembers + 1 {
		if got := view.Majority(n); got != majorities[n] {
			t.Errorf("P3.1: Majority(%d) = %d, not %d", n, got, majorities[n])
		}
		if got := view.FastQuorum(n); got != fast[n] {
			t.Errorf("P3.1: FastQuorum(%d) = %d, not %d", n, got, fast[n])
		}
	}
	for _, n := range []int{-1, -2, -16, least, api.MaxMembers + 1, api.MaxMembers + 2, 1000, greatest} {
		if m, f := view.Majority(n), view.FastQuorum(n); m != 0 || f != 0 {
			t.Errorf("P3.1: Majority(%d) = %d, FastQuorum(%d) = %d, not 0", n, m, n, f)
		}
	}
}

// TestQuorumsMeet counts: sets without a common member leave out each of the n members at least once, so together they leave out at least n.
func TestQuorumsMeet(t *testing.T) {
	for n := 1; n <= api.MaxMembers; n++ {
		m, f := view.Majority(n), view.FastQuorum(n)
		if m < 1 || m > n || f < 1 || f > n {
			t.Errorf("P3.4: a majority %d or a fast quorum %d of %d members is impossible", m, f, n)
		}
		if 2*(n-m) >= n {
			t.Errorf("P3.4: two majorities of %d members may have none in common", n)
		}
		if 2*(n-f)+(n-m) >= n {
			t.Errorf("P3.4: two fast quorums and a majority of %d members may have none in common", n)
		}
	}
}

// TestEffect goes through all views of the identifiers 1 to 7 with all cuts of them and compares with sets of bits.
func TestEffect(t *testing.T) {
	const sets = 1 << 7
	for members := uint(1); members < sets; members++ {
		v := api.View{Number: int(members), Members: chosen(members)}
		for cut := uint(1); cut < sets; cut++ {
			checkEffect(t, v, chosen(cut), chosen(members&^cut), chosen(members&cut), chosen(cut&^members))
			checkNext(t, v, chosen(cut), chosen(members^cut), 2*len(chosen(members&^cut)) > len(v.Members))
		}
	}
}

func checkEffect(t *testing.T, v api.View, cut, survivors, leavers, joiners []int) {
	t.Helper()
	if got := view.Survivors(v, cut); !slices.Equal(got, survivors) {
		t.Errorf("P3.2: Survivors(%v, %v) = %v, not %v", v, cut, got, survivors)
	}
	if got := view.Leavers(v, cut); !slices.Equal(got, leavers) {
		t.Errorf("P3.2: Leavers(%v, %v) = %v, not %v", v, cut, got, leavers)
	}
	if got := view.Joiners(v, cut); !slices.Equal(got, joiners) {
		t.Errorf("P3.2: Joiners(%v, %v) = %v, not %v", v, cut, got, joiners)
	}
}

func checkNext(t *testing.T, v api.View, cut, members []int, majority bool) {
	t.Helper()
	next, err := view.Next(v, cut)
	if !majority {
		if err != api.ErrMajority || next.Number != 0 || len(next.Members) != 0 {
			t.Errorf("P3.2: Next(%v, %v) = %v, %d, not ErrMajority", v, cut, next, err)
		}
		return
	}
	if err != api.OK || next.Number != v.Number+1 || !slices.Equal(next.Members, members) {
		t.Errorf("P3.2: Next(%v, %v) = %v, %d, not {%d %v}", v, cut, next, err, v.Number+1, members)
	}
	if got := view.Diff(v, next); !slices.Equal(got, cut) {
		t.Errorf("P3.4: Diff of %v and the next view %v is %v, not the cut %v", v, next, got, cut)
	}
}

func TestEffectOfGreatCuts(t *testing.T) {
	v := full(9)
	checkEffect(t, v, span(1, 32), nil, span(1, 16), span(17, 32))
	checkEffect(t, v, span(9, 40), span(1, 8), span(9, 16), span(17, 40))
	checkEffect(t, v, span(101, 132), span(1, 16), nil, span(101, 132))
	checkEffect(t, v, []int{16, api.MaxMemberID}, span(1, 15), []int{16}, []int{api.MaxMemberID})
	checkEffect(t, api.View{Members: []int{api.MaxMemberID}}, span(1, 32), []int{api.MaxMemberID}, nil, span(1, 32))
	checkEffect(t, api.View{Number: api.MaxNumber, Members: []int{1}}, []int{1}, nil, []int{1}, nil)
}

func TestEffectOfInvalidArguments(t *testing.T) {
	for _, v := range badViews() {
		checkEffect(t, v, []int{2, 9}, nil, nil, nil)
	}
	for _, cut := range badCuts() {
		checkEffect(t, full(0), cut, nil, nil, nil)
		checkEffect(t, api.View{Members: []int{2, 5, 9}}, cut, nil, nil, nil)
	}
}

func TestNext(t *testing.T) {
	for _, c := range []struct {
		v       api.View
		cut     []int
		err     api.Errno
		members []int
	}{
		{api.View{Members: []int{1, 2, 3}}, []int{3, 4}, api.OK, []int{1, 2, 4}},
		{api.View{Members: []int{1, 2, 3}}, []int{1, 2}, api.ErrMajority, nil},
		{api.View{Members: []int{1, 2}}, []int{2}, api.ErrMajority, nil},
		{api.View{Members: []int{1}}, []int{1}, api.ErrMajority, nil},
		{api.View{Members: []int{1}}, []int{2}, api.OK, []int{1, 2}},
		{api.View{Members: []int{5}}, span(6, 20), api.OK, span(5, 20)},
		{api.View{Members: []int{5}}, span(6, 21), api.ErrLimit, nil},
		{api.View{Members: []int{5}}, span(6, 37), api.ErrLimit, nil},
		{full(3), span(10, 16), api.OK, span(1, 9)},
		{full(3), span(9, 16), api.ErrMajority, nil},
		{full(3), span(1, 32), api.ErrMajority, nil},
		{full(3), span(9, 40), api.ErrMajority, nil},
		{full(3), span(10, 23), api.OK, append(span(1, 9), span(17, 23)...)},
		{full(3), span(10, 24), api.ErrLimit, nil},
		{full(3), []int{17}, api.ErrLimit, nil},
		{full(3), []int{16, 17}, api.OK, append(span(1, 15), 17)},
		{full(api.MaxNumber - 1), []int{1}, api.OK, span(2, 16)},
		{full(api.MaxNumber), []int{1}, api.ErrLimit, nil},
		{full(api.MaxNumber), []int{17}, api.ErrLimit, nil},
		{full(api.MaxNumber), span(1, 8), api.ErrMajority, nil},
		{full(api.MaxNumber), []int{2, 1}, api.ErrInvalid, nil},
		{full(api.MaxNumber), nil, api.ErrInvalid, nil},
	} {
		next, err := view.Next(c.v, c.cut)
		want := api.View{}
		if c.err == api.OK {
			want = api.View{Number: c.v.Number + 1, Members: c.members}
		}
		if err != c.err || next.Number != want.Number || !slices.Equal(next.Members, want.Members) {
			t.Errorf("P3.2: Next(%v, %v) = %v, %d, not %v, %d", c.v, c.cut, next, err, want, c.err)
		}
		if err == api.OK && !view.Valid(next) {
			t.Errorf("P3.2: Next(%v, %v) = %v is not valid", c.v, c.cut, next)
		}
		if err == api.OK && !slices.Equal(view.Diff(c.v, next), c.cut) {
			t.Errorf("P3.4: Diff(%v, %v) is not the cut %v", c.v, next, c.cut)
		}
	}
}

func TestNextOfInvalidArguments(t *testing.T) {
	check := func(v api.View, cut []int) {
		t.Helper()
		if next, err := view.Next(v, cut); err != api.ErrInvalid || next.Number != 0 || len(next.Members) != 0 {
			t.Errorf("P3.2: Next(%v, %v) = %v, %d, not ErrInvalid", v, cut, next, err)
		}
	}
	for _, v := range badViews() {
		check(v, []int{1})
		check(v, []int{900})
		check(v, nil)
	}
	for _, cut := range badCuts() {
		check(full(0), cut)
		check(api.View{Members: []int{1}}, cut)
		check(full(api.MaxNumber), cut)
	}
}

func TestDiff(t *testing.T) {
	const sets = 1 << 7
	for a := uint(1); a < sets; a++ {
		for b := uint(1); b < sets; b++ {
			v, w := api.View{Number: int(b), Members: chosen(a)}, api.View{Number: 5, Members: chosen(b)}
			if got := view.Diff(v, w); !slices.Equal(got, chosen(a^b)) {
				t.Errorf("P3.3: Diff(%v, %v) = %v, not %v", v, w, got, chosen(a^b))
			}
		}
	}
	v, w := full(0), api.View{Number: api.MaxNumber, Members: span(101, 116)}
	if got, want := view.Diff(w, v), append(span(1, 16), span(101, 116)...); !slices.Equal(got, want) {
		t.Errorf("P3.3: Diff(%v, %v) = %v, not %v", w, v, got, want)
	}
	for _, bad := range badViews() {
		if got := view.Diff(v, bad); len(got) != 0 {
			t.Errorf("P3.3: Diff(%v, %v) = %v, not empty", v, bad, got)
		}
		if got := view.Diff(bad, v); len(got) != 0 {
			t.Errorf("P3.3: Diff(%v, %v) = %v, not empty", bad, v, got)
		}
		if got := view.Diff(bad, bad); len(got) != 0 {
			t.Errorf("P3.3: Diff(%v, %v) = %v, not empty", bad, bad, got)
		}
	}
}

// TestMemory changes the results and looks whether the arguments change with them.
func TestMemory(t *testing.T) {
	members, cut := []int{1, 2, 3, 5, 8}, []int{2, 4, 8, 9}
	v, w := api.View{Members: slices.Clone(members)}, api.View{Members: slices.Clone(cut)}
	spare := append(make([]int, 0, 20), cut...)
	next, _ := view.Next(v, spare)
	results := [][]int{
		next.Members, view.Diff(v, w), view.Diff(v, api.View{Members: []int{9}}), view.Diff(api.View{Members: []int{1}}, w),
		view.Survivors(v, spare), view.Leavers(v, spare), view.Joiners(v, spare),
		view.Survivors(v, []int{900}), view.Joiners(api.View{Members: []int{1}}, spare), view.Joiners(api.View{Members: []int{900}}, spare),
	}
	for i, l := range results {
		_ = append(l, 77)
		for j := range l {
			l[j] = 1000 * (i + 1)
		}
	}
	for i, l := range results {
		for _, id := range l {
			if id != 1000*(i+1) {
				t.Errorf("P3.2: result %d shares memory with another one", i)
			}
		}
	}
	if !slices.Equal(v.Members, members) || !slices.Equal(w.Members, cut) || !slices.Equal(spare, cut) {
		t.Errorf("P3.2: an argument is changed: %v, %v, %v", v.Members, w.Members, spare)
	}
}
