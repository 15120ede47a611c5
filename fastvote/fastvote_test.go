package fastvote_test

import (
	"math"
	"slices"
	"testing"

	"actorgrid/api"
	"actorgrid/fastvote"
)

const (
	least    = math.MinInt
	greatest = math.MaxInt
)

// span returns the identifiers from one to another one.
func span(from, to int) []int {
	var l []int
	for id := from; id <= to; id++ {
		l = append(l, id)
	}
	return l
}

// five is a view of which the cuts [40], [9 40] and [7] can be applied, and [2 5 9] can not.
func five() api.View {
	return api.View{Number: 12, Members: []int{2, 5, 9, 40, 1000}}
}

// boxOf returns the box in which the members vote for the same cut.
func boxOf(cut []int, members ...int) []api.Ballot {
	var box []api.Ballot
	for _, m := range members {
		box = append(box, api.Ballot{Member: m, Cut: slices.Clone(cut)})
	}
	return box
}

// join returns the ballots of some boxes, sorted by member.
func join(boxes ...[]api.Ballot) []api.Ballot {
	box := slices.Concat(boxes...)
	slices.SortFunc(box, func(a, b api.Ballot) int { return a.Member - b.Member })
	return box
}

// copied returns ballots with memory of their own.
func copied(box []api.Ballot) []api.Ballot {
	next := slices.Clone(box)
	for i := range next {
		next[i].Cut = slices.Clone(next[i].Cut)
	}
	return next
}

func equal(a, b []api.Ballot) bool {
	return slices.EqualFunc(a, b, func(x, y api.Ballot) bool {
		return x.Member == y.Member && slices.Equal(x.Cut, y.Cut)
	})
}

// badViews are not valid, although 2, 5 and 9 are members of most of them.
func badViews() []api.View {
	return []api.View{
		{},
		{Number: 12},
		{Number: -1, Members: five().Members},
		{Number: least, Members: five().Members},
		{Number: api.MaxNumber + 1, Members: five().Members},
		{Number: greatest, Members: five().Members},
		{Number: 12, Members: []int{0, 2, 5, 9, 40}},
		{Number: 12, Members: []int{-3, 2, 5, 9, 40}},
		{Number: 12, Members: []int{2, 5, 9, 40, api.MaxMemberID + 1}},
		{Number: 12, Members: []int{2, 5, 5, 9, 40}},
		{Number: 12, Members: []int{2, 9, 5, 40}},
		{Number: 12, Members: span(1, api.MaxMembers+1)},
	}
}

// badCuts can not be applied to the view five: they are no cuts, leave no majority, or exceed a limit.
func badCuts() [][]int {
	return [][]int{
		nil, {}, {0}, {-1}, {least}, {greatest}, {api.MaxMemberID + 1}, {40, 40}, {40, 9}, {0, 40}, {9, api.MaxMemberID + 1},
		{2, 5, 9}, {2, 5, 9, 50}, {2, 5, 9, 40, 1000}, {5, 40, 1000},
		span(100, 111), append([]int{40}, span(100, 112)...), span(100, 131), span(100, 132), span(1, 1000),
	}
}

// badBoxes are not valid in the view five.
func badBoxes() [][]api.Ballot {
	cut := []int{40}
	boxes := [][]api.Ballot{
		{{}},
		boxOf(cut, 5, 2),
		boxOf(cut, 2, 5, 40, 9),
		boxOf(cut, 1000, 40, 9, 5, 2),
		boxOf(cut, 2, 2),
		boxOf(cut, 2, 5, 5, 9, 40),
		boxOf(cut, 2, 5, 9, 40, 40),
		boxOf(cut, 2, 5, 9, 40, 1000, 1000),
		boxOf(cut, 2, 5, 9, 40, 1000, 2),
		boxOf(cut, 0),
		boxOf(cut, -2),
		boxOf(cut, least),
		boxOf(cut, greatest),
		boxOf(cut, api.MaxMemberID+1),
		boxOf(cut, 3),
		boxOf(cut, 1, 2, 5, 9, 40),
		boxOf(cut, 2, 5, 7, 9, 40),
		boxOf(cut, 2, 5, 9, 40, 999),
		boxOf(cut, 2, 5, 9, 40, 1001),
		append(boxOf(cut, 2, 5), boxOf([]int{9}, 2, 5)...),
		append(boxOf(cut, 2, 5, 9, 40), boxOf([]int{9}, 40)...),
	}
	for _, bad := range badCuts() {
		boxes = append(boxes,
			boxOf(bad, 9),
			boxOf(bad, 2, 5, 9, 40, 1000),
			join(boxOf(bad, 2), boxOf(cut, 5, 9, 40, 1000)),
			join(boxOf(cut, 2, 5, 9, 40), boxOf(bad, 1000)))
	}
	return boxes
}

// goodBoxes are valid in the view five.
func goodBoxes() [][]api.Ballot {
	return [][]api.Ballot{
		nil,
		{},
		boxOf([]int{40}, 2),
		boxOf([]int{40}, 1000),
		boxOf([]int{2}, 2),
		boxOf([]int{7}, 2, 1000),
		boxOf([]int{9, 40}, 5, 9, 40),
		boxOf(span(100, 110), 2, 5, 9, 40),
		boxOf(append([]int{5, 40}, span(500, 512)...), 2, 5, 9, 40, 1000),
		join(boxOf([]int{1}, 2, 9, 1000), boxOf([]int{999}, 5), boxOf([]int{1, 999}, 40)),
	}
}

func TestSame(t *testing.T) {
	for _, c := range []struct {
		a, b []int
		want bool
	}{
		{nil, nil, true}, {nil, []int{}, true}, {[]int{}, []int{}, true}, {nil, []int{0}, false}, {[]int{}, []int{1}, false},
		{[]int{1}, []int{1}, true}, {[]int{1}, []int{2}, false}, {[]int{1}, []int{-1}, false}, {[]int{0}, []int{0}, true},
		{[]int{1, 2}, []int{1, 2}, true}, {[]int{1, 2}, []int{2, 1}, false}, {[]int{1, 2}, []int{1}, false}, {[]int{1, 2}, []int{2}, false},
		{[]int{1, 2, 3}, []int{1, 2, 4}, false}, {[]int{1, 2, 3}, []int{4, 2, 3}, false}, {[]int{1, 2, 3}, []int{1, 4, 3}, false},
		{[]int{1, 1}, []int{1, 1, 1}, false}, {[]int{1, 1, 2}, []int{1, 2, 2}, false}, {[]int{12}, []int{1, 2}, false},
		{[]int{least, greatest}, []int{least, greatest}, true}, {[]int{least}, []int{greatest}, false}, {[]int{0}, []int{1 << 32}, false},
		{span(1, 5000), span(1, 5000), true}, {span(1, 5000), span(1, 4999), false}, {span(0, 4999), span(1, 5000), false},
	} {
		if fastvote.Same(c.a, c.b) != c.want || fastvote.Same(c.b, c.a) != c.want {
			t.Errorf("P8.1: Same(%v, %v) is not %v", c.a, c.b, c.want)
		}
	}
}

func TestValid(t *testing.T) {
	for _, box := range goodBoxes() {
		if !fastvote.Valid(five(), box) {
			t.Errorf("P8.1: the box %v is valid", box)
		}
		for _, v := range badViews() {
			if fastvote.Valid(v, box) {
				t.Errorf("P8.1: no box is valid in %v, not %v either", v, box)
			}
		}
	}
	for _, box := range badBoxes() {
		if fastvote.Valid(five(), box) {
			t.Errorf("P8.1: the box %v is not valid", box)
		}
	}
}

// TestApplicable has boxes that are valid in one view and not in another one, to which their cut can not be applied.
func TestApplicable(t *testing.T) {
	for _, c := range []struct {
		v    api.View
		cut  []int
		want bool
	}{
		{api.View{Members: []int{1}}, []int{2}, true},
		{api.View{Members: []int{1}}, []int{1}, false},
		{api.View{Members: []int{1, 2}}, []int{2}, false},
		{api.View{Members: []int{1, 2, 3}}, []int{2}, true},
		{api.View{Members: []int{1, 2, 3}}, []int{2, 3}, false},
		{api.View{Members: span(1, 16)}, []int{17}, false},
		{api.View{Members: span(1, 16)}, []int{16, 17}, true},
		{api.View{Members: span(1, 16)}, []int{16, 17, 18}, false},
		{api.View{Members: span(1, 15)}, []int{17}, true},
		{api.View{Members: span(1, 15)}, []int{17, 18}, false},
		{api.View{Members: span(1, 16)}, span(10, 23), true},
		{api.View{Members: span(1, 16)}, span(9, 24), false},
		{api.View{Number: api.MaxNumber - 1, Members: span(1, 3)}, []int{3}, true},
		{api.View{Number: api.MaxNumber, Members: span(1, 3)}, []int{3}, false},
	} {
		if !fastvote.Valid(c.v, nil) {
			t.Errorf("P8.1: the empty box is valid in %v", c.v)
		}
		if got := fastvote.Valid(c.v, boxOf(c.cut, 1)); got != c.want {
			t.Errorf("P8.1: a ballot for %v is valid in %v: %v", c.cut, c.v, got)
		}
		want := api.OK
		if !c.want {
			want = api.ErrInvalid
		}
		if _, err := fastvote.Cast(c.v, nil, api.Ballot{Member: 1, Cut: c.cut}); err != want {
			t.Errorf("P8.1: casting a ballot for %v in %v gives the error %d, not %d", c.cut, c.v, err, want)
		}
	}
}

// checkCast casts a ballot and checks that the arguments stay as they are, also in the memory behind the box.
func checkCast(t *testing.T, v api.View, box []api.Ballot, b api.Ballot, want []api.Ballot, wantErr api.Errno) {
	t.Helper()
	behind := []api.Ballot{{Member: -7, Cut: []int{-8, -9}}, {Member: -10}}
	memory := append(copied(box), copied(behind)...)
	given := memory[:len(box)]
	members, ballot := slices.Clone(v.Members), copied([]api.Ballot{b})[0]
	got, err := fastvote.Cast(v, given, ballot)
	if !equal(got, want) || err != wantErr {
		t.Errorf("P8.1: Cast(%v, %v, %v) = %v, %d, not %v, %d", v, box, b, got, err, want, wantErr)
	}
	if !equal(memory, append(copied(box), behind...)) || !slices.Equal(v.Members, members) || !slices.Equal(ballot.Cut, b.Cut) {
		t.Errorf("P8.1: Cast(%v, %v, %v) changes its arguments", v, box, b)
	}
}

func TestCast(t *testing.T) {
	for _, box := range goodBoxes() {
		for _, cut := range [][]int{{40}, {7}, {2, 5}, span(100, 110)} {
			for _, m := range five().Members {
				b := api.Ballot{Member: m, Cut: cut}
				if slices.ContainsFunc(box, func(old api.Ballot) bool { return old.Member == m }) {
					checkCast(t, five(), box, b, nil, api.ErrDuplicate)
					continue
				}
				checkCast(t, five(), box, b, join(box, []api.Ballot{b}), api.OK)
			}
			for _, m := range []int{0, -2, 1, 3, 39, 41, 999, 1001, least, greatest} {
				checkCast(t, five(), box, api.Ballot{Member: m, Cut: cut}, nil, api.ErrNotFound)
			}
		}
	}
}

// TestCastRefuses has ballots that are refused for more than one reason: the cut or the box counts before the member.
func TestCastRefuses(t *testing.T) {
	for _, m := range []int{2, 9, 1000, 0, 3, 1001, least} {
		for _, box := range goodBoxes() {
			for _, cut := range badCuts() {
				checkCast(t, five(), box, api.Ballot{Member: m, Cut: cut}, nil, api.ErrInvalid)
			}
			for _, v := range badViews() {
				checkCast(t, v, box, api.Ballot{Member: m, Cut: []int{40}}, nil, api.ErrInvalid)
			}
		}
		for _, box := range badBoxes() {
			checkCast(t, five(), box, api.Ballot{Member: m, Cut: []int{40}}, nil, api.ErrInvalid)
			checkCast(t, five(), box, api.Ballot{Member: m}, nil, api.ErrInvalid)
		}
	}
}

// TestCastOrders casts the ballots of four members in all orders.
func TestCastOrders(t *testing.T) {
	all := join(boxOf([]int{40}, 2, 9), boxOf([]int{7}, 5), boxOf([]int{9, 40}, 1000))
	orders := 0
	var castRest func(box []api.Ballot)
	castRest = func(box []api.Ballot) {
		if !fastvote.Valid(five(), box) {
			t.Fatalf("P8.1: the box %v is not valid", box)
		}
		if len(box) == len(all) {
			orders++
			if !equal(box, all) {
				t.Errorf("P8.1: the ballots %v make the box %v", all, box)
			}
			return
		}
		for _, b := range all {
			if next, err := fastvote.Cast(five(), box, b); err == api.OK {
				castRest(next)
			}
		}
	}
	castRest(nil)
	if orders != 24 {
		t.Errorf("P8.1: four ballots are cast in %d orders", orders)
	}
}
