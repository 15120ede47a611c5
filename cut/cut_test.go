package cut_test

import (
	"slices"
	"testing"

	"actorgrid/api"
	"actorgrid/cut"
	"actorgrid/overlay"
)

// span returns the identifiers from one to another one.
func span(from, to int) []int {
	var l []int
	for id := from; id <= to; id++ {
		l = append(l, id)
	}
	return l
}

// five is the view whose observers the tests know: those of 2 are 9, 40, 5, 1000, 40, those of 5 are 1000, 1000, 1000, 2, 9, those of 9 are 40, 5, 2, 5, 1000,
// those of 40 are 5, 9, 9, 9, 5, and those of 1000 are 2, 2, 40, 40, 2. The joiner 4 has 2, 2, 1000, 40, 2, the joiner 7 has 40, 1000, 9, 9, 2, and the joiner 500 has 1000 four times, and 2.
func five() api.View {
	return api.View{Number: 12, Members: []int{2, 5, 9, 40, 1000}}
}

// report says on which rings, written as digits, alerts about a subject came.
type report struct {
	subject int
	rings   string
}

// set returns the set of the reported alerts.
func set(v api.View, reports ...report) []api.Alert {
	var l []api.Alert
	for _, r := range reports {
		observers := overlay.Observers(v.Members, r.subject)
		for _, digit := range r.rings {
			ring := int(digit - '0')
			l = append(l, api.Alert{View: v.Number, Ring: ring, Observer: observers[ring], Subject: r.subject})
		}
	}
	return l
}

// full returns the set of all alerts about some subjects.
func full(v api.View, subjects ...int) []api.Alert {
	var l []api.Alert
	for _, subject := range subjects {
		l = append(l, set(v, report{subject, "01234"})...)
	}
	return l
}

// counts are a subject, its explicit and its implicit reports.
type counts [3]int

// rows returns tallies as counts.
func rows(tallies []api.Tally) []counts {
	var l []counts
	for _, t := range tallies {
		l = append(l, counts{t.Subject, t.Explicit, t.Implicit})
	}
	return l
}

// checkAll compares all functions with what they should return, and checks that they leave their arguments as they are.
func checkAll(t *testing.T, v api.View, l []api.Alert, tallies []counts, unstable, stable, proposal []int) {
	t.Helper()
	members, kept := slices.Clone(v.Members), slices.Clone(l)
	if got := rows(cut.Counts(v, l)); !slices.Equal(got, tallies) {
		t.Errorf("P7.1: Counts(%v, %v) = %v, not %v", v, l, got, tallies)
	}
	if got := cut.Unstable(v, l); !slices.Equal(got, unstable) {
		t.Errorf("P7.2: Unstable(%v, %v) = %v, not %v", v, l, got, unstable)
	}
	if got := cut.Stable(v, l); !slices.Equal(got, stable) {
		t.Errorf("P7.2: Stable(%v, %v) = %v, not %v", v, l, got, stable)
	}
	if got, ok := cut.Propose(v, l); !slices.Equal(got, proposal) || ok != (len(proposal) > 0) {
		t.Errorf("P7.3: Propose(%v, %v) = %v, %v, not %v", v, l, got, ok, proposal)
	}
	if !slices.Equal(v.Members, members) || !slices.Equal(l, kept) {
		t.Errorf("P7.4: the members %v and the set %v are %v and %v afterwards", members, kept, v.Members, l)
	}
}

func TestKnownSets(t *testing.T) {
	for _, c := range []struct {
		reports                    []report
		tallies                    []counts
		unstable, stable, proposal []int
	}{
		{nil, nil, nil, nil, nil},
		{[]report{{2, "0"}}, []counts{{2, 1, 0}}, nil, nil, nil},
		{[]report{{4, "3"}}, []counts{{4, 1, 0}}, nil, nil, nil},
		{[]report{{40, "23"}}, []counts{{40, 2, 0}}, []int{40}, nil, nil},
		{[]report{{40, "024"}}, []counts{{40, 3, 0}}, []int{40}, nil, nil},
		{[]report{{40, "0124"}}, []counts{{40, 4, 0}}, nil, []int{40}, []int{40}},
		{[]report{{40, "01234"}}, []counts{{40, 5, 0}}, nil, []int{40}, []int{40}},
		{[]report{{7, "0123"}}, []counts{{7, 4, 0}}, nil, []int{7}, []int{7}},
		// The observer 40 of 2 is a suspect: on both of its rings, on one of them, and on none because its alerts are there.
		{[]report{{2, "02"}, {40, "23"}}, []counts{{2, 2, 2}, {40, 2, 0}}, []int{40}, []int{2}, nil},
		{[]report{{2, "01"}, {40, "23"}}, []counts{{2, 2, 1}, {40, 2, 0}}, []int{2, 40}, nil, nil},
		{[]report{{2, "14"}, {40, "23"}}, []counts{{2, 2, 0}, {40, 2, 0}}, []int{2, 40}, nil, nil},
		{[]report{{2, "02"}, {40, "1234"}}, []counts{{2, 2, 2}, {40, 4, 0}}, nil, []int{2, 40}, []int{2, 40}},
		{[]report{{2, "014"}, {40, "1234"}}, []counts{{2, 3, 0}, {40, 4, 0}}, []int{2}, []int{40}, nil},
		// Neither a subject with one alert nor an observer with one alert has implicit reports.
		{[]report{{2, "0"}, {40, "01234"}}, []counts{{2, 1, 0}, {40, 5, 0}}, nil, []int{40}, []int{40}},
		{[]report{{2, "023"}, {40, "2"}}, []counts{{2, 3, 0}, {40, 1, 0}}, []int{2}, nil, nil},
		// 2 and 1000 observe each other, and so do 5 and 9.
		{[]report{{2, "01"}, {1000, "23"}}, []counts{{2, 2, 1}, {1000, 2, 3}}, []int{2}, []int{1000}, nil},
		{[]report{{2, "012"}, {1000, "23"}}, []counts{{2, 3, 1}, {1000, 2, 3}}, nil, []int{2, 1000}, []int{2, 1000}},
		{[]report{{2, "012"}, {1000, "14"}}, []counts{{2, 3, 1}, {1000, 2, 1}}, []int{1000}, []int{2}, nil},
		{[]report{{5, "013"}, {9, "024"}}, []counts{{5, 3, 1}, {9, 3, 2}}, nil, []int{5, 9}, []int{5, 9}},
		// The missing alerts about one subject are those of three observers.
		{[]report{{2, "03"}, {5, "012"}, {40, "123"}}, []counts{{2, 2, 3}, {5, 3, 1}, {40, 3, 2}}, nil, []int{2, 5, 40}, nil},
		// A joiner whose observers leave; a joiner is nobody's observer.
		{[]report{{4, "23"}, {9, "02"}}, []counts{{4, 2, 0}, {9, 2, 0}}, []int{4, 9}, nil, nil},
		{[]report{{2, "0123"}, {4, "23"}}, []counts{{2, 4, 0}, {4, 2, 3}}, nil, []int{2, 4}, []int{2, 4}},
		{[]report{{500, "04"}, {1000, "0134"}}, []counts{{500, 2, 3}, {1000, 4, 0}}, nil, []int{500, 1000}, []int{500, 1000}},
		{[]report{{4, "01234"}, {7, "01234"}, {40, "23"}}, []counts{{4, 5, 0}, {7, 5, 0}, {40, 2, 0}}, []int{40}, []int{4, 7}, nil},
		// A joiner that is between the watermarks delays the others, and one below them does not.
		{[]report{{40, "01234"}, {500, "04"}}, []counts{{40, 5, 0}, {500, 2, 0}}, []int{500}, []int{40}, nil},
		{[]report{{40, "01234"}, {500, "024"}}, []counts{{40, 5, 0}, {500, 3, 0}}, []int{500}, []int{40}, nil},
		{[]report{{4, "2"}, {7, "4"}, {40, "0123"}, {500, "0"}}, []counts{{4, 1, 0}, {7, 1, 0}, {40, 4, 0}, {500, 1, 0}}, nil, []int{40}, []int{40}},
		// Three of five members are too many.
		{[]report{{2, "0123"}, {5, "0123"}, {9, "0123"}}, []counts{{2, 4, 0}, {5, 4, 1}, {9, 4, 0}}, nil, []int{2, 5, 9}, nil},
	} {
		checkAll(t, five(), set(five(), c.reports...), c.tallies, c.unstable, c.stable, c.proposal)
	}
}

// TestTwoMembers has a member that both is the only observer of the other one and can leave itself.
func TestTwoMembers(t *testing.T) {
	two := api.View{Number: 3, Members: []int{1, 2}}
	checkAll(t, two, set(two, report{1, "04"}, report{2, "12"}), []counts{{1, 2, 3}, {2, 2, 3}}, nil, []int{1, 2}, nil)
	checkAll(t, two, set(two, report{1, "04"}, report{2, "1"}), []counts{{1, 2, 0}, {2, 1, 0}}, []int{1}, nil, nil)
	checkAll(t, two, full(two, 2), []counts{{2, 5, 0}}, nil, []int{2}, nil)
	checkAll(t, two, full(two, 2, 3), []counts{{2, 5, 0}, {3, 5, 0}}, nil, []int{2, 3}, nil)
	checkAll(t, two, full(two, 3), []counts{{3, 5, 0}}, nil, []int{3}, []int{3})
}

// TestOneMember has a view in which only joiners can be reported.
func TestOneMember(t *testing.T) {
	one := api.View{Members: []int{6}}
	checkAll(t, one, nil, nil, nil, nil, nil)
	checkAll(t, one, set(one, report{1, "34"}, report{1000, "0123"}), []counts{{1, 2, 0}, {1000, 4, 0}}, []int{1}, []int{1000}, nil)
	checkAll(t, one, full(one, 1, 5, 7, 1000), []counts{{1, 5, 0}, {5, 5, 0}, {7, 5, 0}, {1000, 5, 0}}, nil, []int{1, 5, 7, 1000}, []int{1, 5, 7, 1000})
}

// TestOneSubject tests the watermarks by all sets of alerts about one subject: with one alert it is ignored, with two or three it delays, with four or five it is proposed.
func TestOneSubject(t *testing.T) {
	for _, v := range []api.View{five(), {Number: api.MaxNumber - 1, Members: span(1, 3)}, {Number: 7, Members: span(10, 25)}} {
		for _, subject := range append(slices.Clone(v.Members), 4, 7, 500) {
			for bits := range 1 << api.Rings {
				rings := ""
				for ring := range api.Rings {
					if bits>>ring&1 == 1 {
						rings += string(rune('0' + ring))
					}
				}
				l, one := set(v, report{subject, rings}), []int{subject}
				tallies := []counts{{subject, len(rings), 0}}
				switch isJoiner := !slices.Contains(v.Members, subject); {
				case len(rings) == 0:
					checkAll(t, v, l, nil, nil, nil, nil)
				case len(rings) < 2:
					checkAll(t, v, l, tallies, nil, nil, nil)
				case len(rings) < 4:
					checkAll(t, v, l, tallies, one, nil, nil)
				case isJoiner && len(v.Members) == 16:
					checkAll(t, v, l, tallies, nil, one, nil)
				default:
					checkAll(t, v, l, tallies, nil, one, one)
				}
			}
		}
	}
}

// TestBadArguments asks about views and sets that are not valid, in which alerts would otherwise suffice for a proposal.
func TestBadArguments(t *testing.T) {
	for _, v := range []api.View{
		{}, {Number: 1}, {Number: -1, Members: span(1, 3)}, {Number: api.MaxNumber + 1, Members: span(1, 3)},
		{Members: span(0, 3)}, {Members: []int{-1, 1}}, {Members: []int{1, 1}}, {Members: []int{2, 1, 3}}, {Members: []int{1, 2, api.MaxMemberID + 1}}, {Members: span(1, api.MaxMembers+1)},
	} {
		var l []api.Alert
		for ring := range api.Rings {
			l = append(l, api.Alert{View: v.Number, Ring: ring, Observer: 1, Subject: 2})
		}
		for _, bad := range [][]api.Alert{nil, {}, l} {
			checkAll(t, v, bad, nil, nil, nil, nil)
		}
	}
	good := full(five(), 40, 500)
	for _, change := range []func(l []api.Alert) []api.Alert{
		func(l []api.Alert) []api.Alert { return append(l, l[9]) },
		func(l []api.Alert) []api.Alert { return append(l[5:], l[:5]...) },
		func(l []api.Alert) []api.Alert { l[1], l[2] = l[2], l[1]; return l },
		func(l []api.Alert) []api.Alert { l[3].View = 11; return l },
		func(l []api.Alert) []api.Alert { l[9].View = 13; return l },
		func(l []api.Alert) []api.Alert { l[0].Observer = 2; return l },
		func(l []api.Alert) []api.Alert { l[0].Ring = -1; return l },
		func(l []api.Alert) []api.Alert { l[9].Ring = api.Rings; return l },
		func(l []api.Alert) []api.Alert { l[0].Subject = 0; return l },
		func(l []api.Alert) []api.Alert { l[9].Subject = api.MaxMemberID + 1; return l },
		func(l []api.Alert) []api.Alert { return append(l, api.Alert{}) },
	} {
		checkAll(t, five(), change(slices.Clone(good)), nil, nil, nil, nil)
	}
	checkAll(t, api.View{Number: 13, Members: five().Members}, good, nil, nil, nil, nil)
	checkAll(t, api.View{Number: 12, Members: []int{2, 5, 9, 40}}, good, nil, nil, nil, nil)
	checkAll(t, five(), good, []counts{{40, 5, 0}, {500, 5, 0}}, nil, []int{40, 500}, []int{40, 500})
}
