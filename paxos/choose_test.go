package paxos_test

import (
	"slices"
	"testing"

	"actorgrid/api"
	"actorgrid/paxos"
)

// five is a view of which the cuts [40], [9 40] and [7] can be applied, and [2 5 9] can not.
func five() api.View {
	return api.View{Number: 12, Members: []int{2, 5, 9, 40, 1000}}
}

// viewOf returns the view of the members 1 to n.
func viewOf(n int) api.View {
	return api.View{Number: 5, Members: span(1, n)}
}

// reportsOf returns reports of the same rank and cut.
func reportsOf(rank int, cut []int, members ...int) []api.Report {
	var l []api.Report
	for _, m := range members {
		l = append(l, api.Report{Member: m, Rank: rank, Cut: slices.Clone(cut)})
	}
	return l
}

// join returns the reports of some lists, sorted by member.
func join(lists ...[]api.Report) []api.Report {
	l := slices.Concat(lists...)
	slices.SortFunc(l, func(a, b api.Report) int { return a.Member - b.Member })
	return l
}

func copied(reports []api.Report) []api.Report {
	l := slices.Clone(reports)
	for i := range l {
		l[i].Cut = inRoom(l[i].Cut)
	}
	return l
}

func sameReports(a, b []api.Report) bool {
	return slices.EqualFunc(a, b, sameReport)
}

// badViews are not valid, although 2, 5 and 9 are members of most of them.
func badViews() []api.View {
	return []api.View{
		{},
		{Number: 12},
		{Number: -1, Members: five().Members},
		{Number: least, Members: five().Members},
		{Number: api.MaxNumber + 1, Members: five().Members},
		{Number: greatest, Members: five().Members},
		{Number: 12, Members: []int{0, 2, 5, 9, 40}},
		{Number: 12, Members: []int{2, 5, 9, 40, 1001}},
		{Number: 12, Members: []int{2, 5, 5, 9, 40}},
		{Number: 12, Members: []int{2, 9, 5, 40}},
		{Number: 12, Members: span(1, api.MaxMembers+1)},
	}
}

// notApplicable are cuts that cannot be applied to the view five: they are no cuts, leave no majority, or exceed a limit. The first two are empty.
func notApplicable() [][]int {
	return append(badCuts(), []int{2, 5, 9}, []int{2, 5, 9, 50}, []int{2, 5, 9, 40, 1000}, span(100, 111), append([]int{40}, span(100, 112)...), span(100, 131))
}

// goodLists are valid in the view five.
func goodLists() [][]api.Report {
	return [][]api.Report{
		nil,
		{},
		reportsOf(-1, nil, 2),
		reportsOf(-1, nil, 2, 5, 9, 40, 1000),
		reportsOf(0, []int{40}, 1000),
		reportsOf(1031, []int{7}, 2, 1000),
		reportsOf(1025, []int{9, 40}, 5, 9, 40),
		reportsOf(topRank, span(100, 110), 2, 5, 9, 40),
		reportsOf(2024, append([]int{5, 40}, span(500, 512)...), 2, 5, 9, 40, 1000),
		// The owner of a rank need not be a member, and equal ranks need not come with equal cuts.
		join(reportsOf(1031, []int{1}, 2), reportsOf(1031, []int{2}, 40)),
		join(reportsOf(2049, []int{1}, 2), reportsOf(0, []int{999}, 5), reportsOf(-1, nil, 9, 1000), reportsOf(1031, []int{1, 999}, 40)),
		{{Member: 9, Rank: -1, Cut: []int{}}},
	}
}

// badReports are of the member 9 and not valid in the view five: for their rank, or for their cut.
func badReports() []api.Report {
	var l []api.Report
	for _, rank := range unusable() {
		if rank == 0 || rank == -1 {
			continue
		}
		l = append(l, api.Report{Member: 9, Rank: rank, Cut: []int{40}}, api.Report{Member: 9, Rank: rank})
	}
	for _, cut := range notApplicable() {
		for _, rank := range []int{0, 1025, 1031, topRank} {
			l = append(l, api.Report{Member: 9, Rank: rank, Cut: cut})
		}
		if len(cut) > 0 {
			l = append(l, api.Report{Member: 9, Rank: -1, Cut: cut})
		}
	}
	return append(l, api.Report{Member: 9, Rank: -1, Cut: []int{40}}, api.Report{Member: 9, Rank: -2})
}

// badLists are not valid in the view five.
func badLists() [][]api.Report {
	cut := []int{40}
	l := [][]api.Report{{{}}}
	for _, members := range [][]int{
		{5, 2}, {2, 5, 40, 9}, {2, 9, 5, 40, 1000}, {1000, 40, 9, 5, 2},
		{2, 2}, {2, 5, 5, 9}, {2, 5, 9, 40, 1000, 1000}, {2, 5, 9, 40, 1000, 2},
		{0}, {-2}, {least}, {greatest}, {1001}, {3}, {1, 2, 5, 9}, {2, 5, 7, 9}, {2, 5, 9, 999}, {2, 5, 9, 40, 1000, 1001}, {least, 2, 5},
	} {
		l = append(l, reportsOf(-1, nil, members...), reportsOf(0, cut, members...), reportsOf(1031, cut, members...))
	}
	for _, r := range badReports() {
		one := []api.Report{r}
		l = append(l, one, join(one, reportsOf(0, cut, 2, 5, 40)), join(one, reportsOf(2049, cut, 2, 40, 1000)))
	}
	return l
}

func TestValidReports(t *testing.T) {
	for _, l := range goodLists() {
		if !paxos.ValidReports(five(), l) {
			t.Errorf("P9.3: the reports %v are not valid", l)
		}
		for _, v := range badViews() {
			if paxos.ValidReports(v, l) {
				t.Errorf("P9.3: the reports %v are valid in %v", l, v)
			}
		}
	}
	for _, l := range badLists() {
		if paxos.ValidReports(five(), l) {
			t.Errorf("P9.3: the reports %v are valid", l)
		}
	}
}

// TestReportedCuts has reports of valid cuts in views of other sizes.
func TestReportedCuts(t *testing.T) {
	last := api.View{Number: api.MaxNumber, Members: span(1, 3)}
	for _, c := range []struct {
		v    api.View
		cut  []int
		want bool
	}{
		{viewOf(1), []int{2}, true}, {viewOf(1), []int{1}, false}, {viewOf(2), []int{2}, false}, {viewOf(3), []int{2}, true}, {viewOf(3), []int{2, 3}, false},
		{viewOf(16), []int{17}, false}, {viewOf(16), []int{16, 17}, true}, {viewOf(16), span(10, 23), true}, {viewOf(16), span(9, 24), false},
		{api.View{Number: api.MaxNumber - 1, Members: span(1, 3)}, []int{3}, true}, {last, []int{3}, false},
	} {
		for _, rank := range []int{0, 1025, topRank} {
			if got := paxos.ValidReports(c.v, reportsOf(rank, c.cut, 1)); got != c.want {
				t.Errorf("P9.3: a report of %v with the rank %d is valid in %v: %v", c.cut, rank, c.v, got)
			}
		}
	}
	if !paxos.ValidReports(last, reportsOf(-1, nil, 1, 2, 3)) {
		t.Error("P9.3: reports of nothing are not valid in the last view")
	}
}

// checkAdd adds a report and checks that the arguments stay as they are, also if the result is changed.
func checkAdd(t *testing.T, v api.View, l []api.Report, r api.Report, want []api.Report, wantOK bool) {
	t.Helper()
	behind := []api.Report{{Member: -7, Cut: []int{-8}}, {Member: -9}}
	memory := append(copied(l), behind...)
	given := api.Report{Member: r.Member, Rank: r.Rank, Cut: inRoom(r.Cut)}
	got, ok := paxos.AddReport(v, memory[:len(l)], given)
	if !sameReports(got, want) || ok != wantOK {
		t.Errorf("P9.3: AddReport(%v, %v, %v) = %v, %v, not %v, %v", v, l, r, got, ok, want, wantOK)
	}
	for i := range got {
		spoil(got[i].Cut)
		got[i].Rank = -99
	}
	if !sameReports(memory, append(copied(l), behind...)) || !sameReport(given, r) {
		t.Errorf("P9.3: AddReport(%v, %v, %v) changes its arguments", v, l, r)
	}
}

func TestAddReport(t *testing.T) {
	var fit []api.Report
	for _, m := range append(five().Members, 0, -2, 1, 3, 39, 41, 999, 1001, least, greatest) {
		fit = append(fit, api.Report{Member: m, Rank: -1}, api.Report{Member: m, Cut: []int{40}}, api.Report{Member: m, Rank: 1031, Cut: []int{1, 9}})
	}
	for _, l := range goodLists() {
		for _, r := range fit {
			known := slices.ContainsFunc(l, func(old api.Report) bool { return old.Member == r.Member })
			if known || !slices.Contains(five().Members, r.Member) {
				checkAdd(t, five(), l, r, l, false)
				continue
			}
			checkAdd(t, five(), l, r, join(l, []api.Report{r}), true)
		}
		for _, r := range badReports() {
			checkAdd(t, five(), l, r, l, false)
		}
		for _, v := range badViews() {
			checkAdd(t, v, l, api.Report{Member: 2, Rank: -1}, nil, false)
		}
	}
}

// TestAddToBadLists adds to lists that are not valid; nothing of them is returned.
func TestAddToBadLists(t *testing.T) {
	for _, l := range badLists() {
		for _, m := range []int{2, 40, 1000, 3} {
			checkAdd(t, five(), l, api.Report{Member: m, Rank: -1}, nil, false)
			checkAdd(t, five(), l, api.Report{Member: m, Rank: 1031, Cut: []int{40}}, nil, false)
		}
	}
}

// TestAddOrders adds the reports of five members in all orders, each of them twice.
func TestAddOrders(t *testing.T) {
	all := join(reportsOf(0, []int{40}, 2, 9), reportsOf(1031, []int{7}, 5), reportsOf(-1, nil, 40), reportsOf(topRank, []int{9, 40}, 1000))
	orders := 0
	var addRest func(l []api.Report)
	addRest = func(l []api.Report) {
		if len(l) == len(all) {
			orders++
			if !sameReports(l, all) {
				t.Errorf("P9.3: the reports %v make the list %v", all, l)
			}
			return
		}
		for _, r := range all {
			next, ok := paxos.AddReport(five(), l, r)
			if !ok {
				continue
			}
			if again, ok := paxos.AddReport(five(), next, r); ok || !sameReports(again, next) {
				t.Errorf("P9.3: a second report of %d makes %v of %v", r.Member, again, next)
			}
			addRest(next)
		}
	}
	addRest(nil)
	if orders != 120 {
		t.Errorf("P9.3: five reports are added in %d orders", orders)
	}
}

// checkChoose makes a choice and checks that the arguments stay as they are, also if the result is changed.
func checkChoose(t *testing.T, v api.View, l []api.Report, own, want []int) {
	t.Helper()
	given, mine := copied(l), inRoom(own)
	got, ok := paxos.Choose(v, given, mine)
	if !slices.Equal(got, want) || ok != (len(want) > 0) {
		t.Errorf("P9.3: Choose(%v, %v, %v) = %v, %v, not %v", v, l, own, got, ok, want)
	}
	spoil(got)
	mine = mine[:len(own)+2]
	if !sameReports(given, l) || !slices.Equal(mine, append(slices.Clone(own), -7, -8)) {
		t.Errorf("P9.3: Choose(%v, %v, %v) changes its arguments", v, l, own)
	}
	for i, r := range given {
		if !slices.Equal(r.Cut[:len(r.Cut)+2], append(slices.Clone(l[i].Cut), -7, -8)) {
			t.Errorf("P9.3: Choose(%v, %v, %v) writes behind a cut", v, l, own)
		}
	}
}

func TestChoose(t *testing.T) {
	a, b, own := []int{40}, []int{9, 40}, []int{7}
	for _, c := range []struct {
		l         []api.Report
		own, want []int
	}{
		// The highest rank wins over all votes.
		{join(reportsOf(1031, a, 5), reportsOf(0, b, 2, 9, 40, 1000)), own, a},
		{join(reportsOf(1025, a, 1000), reportsOf(-1, nil, 2, 9)), nil, a},
		{join(reportsOf(1031, a, 2, 5, 9, 40), reportsOf(1032, b, 1000)), own, b},
		{join(reportsOf(1032, b, 2), reportsOf(1031, a, 5, 9, 40, 1000)), own, b},
		{join(reportsOf(2049, b, 9), reportsOf(1031, a, 2, 5), reportsOf(2024, own, 40)), nil, b},
		{reportsOf(topRank, b, 2, 5, 9), b, b},
		// If the cuts of the highest rank differ, the lowest member's is taken, whatever the others have.
		{join(reportsOf(1031, a, 5), reportsOf(1031, b, 2, 9)), own, b},
		{join(reportsOf(1031, a, 2), reportsOf(1031, b, 5, 9, 40)), own, a},
		{join(reportsOf(-1, nil, 2), reportsOf(1031, b, 5), reportsOf(1031, a, 9), reportsOf(2049, own, 40), reportsOf(2049, a, 1000)), nil, own},
		{join(reportsOf(0, a, 2, 5), reportsOf(1031, own, 9), reportsOf(1031, a, 40, 1000)), b, own},
		// Of three reports two must be equal, of four three, and of five four.
		{reportsOf(0, a, 2, 5, 9), own, a},
		{join(reportsOf(0, a, 2, 5), reportsOf(-1, nil, 9)), own, a},
		{join(reportsOf(0, a, 5, 1000), reportsOf(0, b, 9)), own, a},
		{join(reportsOf(0, a, 1000), reportsOf(0, b, 2, 9)), own, b},
		{join(reportsOf(0, a, 2), reportsOf(-1, nil, 9, 40)), own, own},
		{join(reportsOf(0, a, 2), reportsOf(0, b, 5), reportsOf(0, own, 9)), []int{8}, []int{8}},
		{join(reportsOf(0, a, 2, 5, 40), reportsOf(-1, nil, 9)), own, a},
		{join(reportsOf(0, a, 2, 5), reportsOf(-1, nil, 9, 40)), own, own},
		{join(reportsOf(0, a, 2, 5), reportsOf(0, b, 9, 40)), own, own},
		{join(reportsOf(0, b, 2), reportsOf(0, a, 5, 9, 40)), own, a},
		{join(reportsOf(0, b, 2), reportsOf(0, a, 5, 9, 40, 1000)), own, a},
		{join(reportsOf(0, b, 2, 1000), reportsOf(0, a, 5, 9, 40)), own, own},
		{join(reportsOf(-1, nil, 2, 1000), reportsOf(0, a, 5, 9, 40)), own, own},
		{reportsOf(0, a, 2, 5, 9, 40, 1000), own, a},
		// Without an own cut there may be none at all.
		{join(reportsOf(0, a, 2), reportsOf(-1, nil, 9, 40)), nil, nil},
		{join(reportsOf(0, a, 2, 5), reportsOf(0, b, 9, 40)), []int{}, nil},
		{join(reportsOf(0, a, 2, 5), reportsOf(0, b, 9)), []int{}, a},
		{reportsOf(-1, nil, 2, 5, 9, 40, 1000), nil, nil},
		{reportsOf(-1, nil, 2, 5, 9, 40, 1000), own, own},
		{nil, own, nil},
	} {
		checkChoose(t, five(), c.l, c.own, c.want)
	}
}

// TestFewReports has one report fewer than a majority, and a majority, for each number of members.
func TestFewReports(t *testing.T) {
	majorities := []int{0, 1, 2, 2, 3, 3, 4, 4, 5, 5, 6, 6, 7, 7, 8, 8, 9}
	for n := 1; n <= api.MaxMembers; n++ {
		own, cut := []int{20}, []int{21}
		if n > 2 {
			own, cut = []int{1}, []int{2}
		}
		if n == 16 {
			own, cut = []int{1, 20}, []int{2, 20}
		}
		for count := range n + 1 {
			for _, members := range [][]int{span(1, count), span(n-count+1, n)} {
				for _, rank := range []int{0, 1031} {
					want := cut
					if count < majorities[n] {
						want = nil
					}
					checkChoose(t, viewOf(n), reportsOf(rank, cut, members...), own, want)
				}
				want := own
				if count < majorities[n] {
					want = nil
				}
				checkChoose(t, viewOf(n), reportsOf(-1, nil, members...), own, want)
			}
		}
	}
}

// TestFastReports has for each number of members and of reports as many equal votes as may belong to a fast quorum, and one fewer; the others voted for nothing or for another cut.
func TestFastReports(t *testing.T) {
	quorums := []int{0, 1, 2, 3, 4, 4, 5, 6, 7, 7, 8, 9, 10, 10, 11, 12, 13}
	for n := 1; n <= api.MaxMembers; n++ {
		cut, other, own := []int{1}, []int{2}, []int{1, 2}
		if n < 5 {
			cut, other, own = []int{20}, []int{21}, []int{20, 21}
		}
		for count := n/2 + 1; count <= n; count++ {
			for shift := range n {
				for votes := range count + 1 {
					var some, split []api.Report
					for i := range count {
						m := 1 + (shift+i)%n
						r := api.Report{Member: m, Rank: -1}
						if i < votes {
							r = api.Report{Member: m, Cut: cut}
						}
						some = append(some, r)
						if i >= votes {
							r = api.Report{Member: m, Cut: other}
						}
						split = append(split, r)
					}
					missing := n - count
					want, wantSplit := own, own
					if votes+missing >= quorums[n] {
						want, wantSplit = cut, cut
					} else if count-votes+missing >= quorums[n] {
						wantSplit = other
					}
					checkChoose(t, viewOf(n), join(some), own, want)
					checkChoose(t, viewOf(n), join(split), own, wantSplit)
				}
			}
		}
	}
}

// TestBadChoices has an own cut, reports or a view that is not valid; all else would allow a choice.
func TestBadChoices(t *testing.T) {
	full := reportsOf(1031, []int{40}, 2, 5, 9, 40, 1000)
	for _, own := range notApplicable() {
		if len(own) == 0 {
			checkChoose(t, five(), full, own, []int{40})
			continue
		}
		checkChoose(t, five(), full, own, nil)
		checkChoose(t, five(), reportsOf(0, []int{40}, 2, 5, 9, 40, 1000), own, nil)
		checkChoose(t, five(), reportsOf(-1, nil, 2, 5, 9, 40, 1000), own, nil)
	}
	for _, l := range badLists() {
		checkChoose(t, five(), l, []int{7}, nil)
		checkChoose(t, five(), l, nil, nil)
	}
	for _, v := range badViews() {
		checkChoose(t, v, reportsOf(1031, []int{40}, 2, 5, 9), []int{7}, nil)
		checkChoose(t, v, reportsOf(-1, nil, 2, 5, 9), []int{7}, nil)
		checkChoose(t, v, nil, []int{7}, nil)
	}
	last := api.View{Number: api.MaxNumber, Members: five().Members}
	checkChoose(t, last, reportsOf(-1, nil, 2, 5, 9), nil, nil)
	checkChoose(t, last, reportsOf(-1, nil, 2, 5, 9), []int{7}, nil)
	checkChoose(t, last, full, []int{7}, nil)
}
