package alerts_test

import (
	"math"
	"slices"
	"testing"

	"actorgrid/alerts"
	"actorgrid/api"
	"actorgrid/overlay"
)

const (
	least    = math.MinInt
	greatest = math.MaxInt
)

// span returns the identifiers from one to another one.
func span(from, to int) []int {
	var l []int
	for id := from; id <= to; id++ {
		l = append(l, id)
	}
	return l
}

// five is the view of the members whose rings the tests know.
func five() api.View {
	return api.View{Number: 12, Members: []int{2, 5, 9, 40, 1000}}
}

// views are views of several sizes, with small and great numbers and identifiers.
func views() []api.View {
	return []api.View{
		five(), {Members: []int{1}}, {Number: 5, Members: []int{api.MaxMemberID}}, {Number: api.MaxNumber, Members: []int{1, api.MaxMemberID}},
		{Number: 3, Members: []int{1, 2}}, {Members: span(1, 3)}, {Number: 1 << 33, Members: []int{17, 33, 404, 405, 700, 999}}, {Number: 7, Members: span(1, api.MaxMembers)},
	}
}

func badViews() []api.View {
	return []api.View{
		{}, {Number: 1}, {Members: []int{}}, {Number: -1, Members: span(1, 3)}, {Number: least, Members: span(1, 3)},
		{Number: api.MaxNumber + 1, Members: span(1, 3)}, {Number: greatest, Members: span(1, 3)},
		{Members: span(0, 3)}, {Members: []int{-1, 1}}, {Members: []int{1, 1}}, {Members: []int{2, 1, 3}}, {Members: []int{1, 2, api.MaxMemberID + 1}},
		{Members: span(1, api.MaxMembers+1)}, {Members: span(1, api.MaxMemberID)},
	}
}

// all returns all alerts that are valid in a view, sorted.
func all(v api.View) []api.Alert {
	var l []api.Alert
	for subject := 1; subject <= api.MaxMemberID; subject++ {
		for ring, observer := range overlay.Observers(v.Members, subject) {
			l = append(l, api.Alert{View: v.Number, Ring: ring, Observer: observer, Subject: subject})
		}
	}
	return l
}

// some returns every step-th valid alert of a view from the first one on.
func some(v api.View, first, step int) []api.Alert {
	var l []api.Alert
	for i, a := range all(v) {
		if i%step == first {
			l = append(l, a)
		}
	}
	return l
}

// rank puts subjects and rings into one number.
func rank(a api.Alert) int {
	return 10*a.Subject + a.Ring
}

// ascending reports whether the ranks of a list are ascending.
func ascending(l []api.Alert) bool {
	for i := 1; i < len(l); i++ {
		if rank(l[i-1]) >= rank(l[i]) {
			return false
		}
	}
	return true
}

// roomy returns a copy of a list with room behind it that holds other alerts.
func roomy(l []api.Alert) []api.Alert {
	room := make([]api.Alert, len(l)+20)
	for i := range room {
		room[i] = api.Alert{View: -7}
	}
	copy(room, l)
	return room[:len(l)]
}

func TestValidAlert(t *testing.T) {
	for subject, observers := range map[int][]int{
		2: {9, 40, 5, 1000, 40}, 40: {5, 9, 9, 9, 5}, 1000: {2, 2, 40, 40, 2},
		4: {2, 2, 1000, 40, 2}, 7: {40, 1000, 9, 9, 2}, 500: {1000, 1000, 1000, 1000, 2},
	} {
		for ring, want := range observers {
			for _, observer := range []int{2, 5, 9, 40, 1000, 0, -1, 4, 7, 500, 1001, subject} {
				a := api.Alert{View: 12, Ring: ring, Observer: observer, Subject: subject}
				if got := alerts.ValidAlert(five(), a); got != (observer == want) {
					t.Errorf("P6.1: ValidAlert of %v in %v is %v", a, five(), got)
				}
			}
		}
	}
}

// TestOneOrTwoMembers tests the example of the chapter, and a view in which nobody can be reported but joiners.
func TestOneOrTwoMembers(t *testing.T) {
	two, one := api.View{Number: 3, Members: []int{1, 2}}, api.View{Number: 4, Members: []int{6}}
	for ring := -1; ring <= api.Rings; ring++ {
		for observer := -1; observer <= 8; observer++ {
			possible := ring >= 0 && ring < api.Rings
			if a := (api.Alert{View: 3, Ring: ring, Observer: observer, Subject: 2}); alerts.ValidAlert(two, a) != (possible && observer == 1) {
				t.Errorf("P6.1: ValidAlert of %v in %v is %v", a, two, alerts.ValidAlert(two, a))
			}
			if a := (api.Alert{View: 4, Ring: ring, Observer: observer, Subject: 6}); alerts.ValidAlert(one, a) {
				t.Errorf("P6.1: %v is valid in %v", a, one)
			}
			if a := (api.Alert{View: 4, Ring: ring, Observer: observer, Subject: 7}); alerts.ValidAlert(one, a) != (possible && observer == 6) {
				t.Errorf("P6.1: ValidAlert of %v in %v is %v", a, one, alerts.ValidAlert(one, a))
			}
		}
	}
}

// numbers are values around the bounds of identifiers, rings and view numbers.
func numbers() []int {
	return []int{least, -1, 0, 1, 2, 3, 4, 5, 6, 9, 12, 13, 40, 999, 1000, 1001, 1 << 32, api.MaxNumber, api.MaxNumber + 1, greatest}
}

// TestAllAlerts compares ValidAlert with the list of the valid alerts.
func TestAllAlerts(t *testing.T) {
	for _, v := range views() {
		valid := map[api.Alert]bool{}
		for _, a := range all(v) {
			valid[a] = true
			if !alerts.ValidAlert(v, a) {
				t.Errorf("P6.1: %v is not valid in %v", a, v)
			}
		}
		for _, number := range append(numbers(), v.Number) {
			for _, ring := range numbers() {
				for _, observer := range append(v.Members, numbers()...) {
					for _, subject := range numbers() {
						a := api.Alert{View: number, Ring: ring, Observer: observer, Subject: subject}
						if number != v.Number && (ring < 0 || ring > 5) {
							continue
						}
						if got := alerts.ValidAlert(v, a); got != valid[a] {
							t.Fatalf("P6.1: ValidAlert of %v in %v is %v", a, v, got)
						}
					}
				}
			}
		}
	}
}

func TestLess(t *testing.T) {
	for _, c := range []struct {
		a, b api.Alert
		want bool
	}{
		{api.Alert{}, api.Alert{}, false}, {api.Alert{Subject: 1}, api.Alert{Subject: 2}, true}, {api.Alert{Subject: 2}, api.Alert{Subject: 1}, false},
		{api.Alert{Ring: 1}, api.Alert{Ring: 2}, true}, {api.Alert{Ring: 2}, api.Alert{Ring: 1}, false}, {api.Alert{Ring: 2}, api.Alert{Ring: 2}, false},
		{api.Alert{Subject: 1, Ring: 4}, api.Alert{Subject: 2, Ring: 0}, true}, {api.Alert{Subject: 2, Ring: 0}, api.Alert{Subject: 1, Ring: 4}, false},
		{api.Alert{Subject: 3, View: 1}, api.Alert{Subject: 3, View: 2}, false}, {api.Alert{Subject: 3, Observer: 1}, api.Alert{Subject: 3, Observer: 2}, false},
		{api.Alert{View: 9, Observer: 9, Subject: 1}, api.Alert{Subject: 1, Ring: 1}, true}, {api.Alert{Subject: 1}, api.Alert{View: 9, Observer: 9, Subject: 1}, false},
		{api.Alert{Subject: least}, api.Alert{Subject: greatest}, true}, {api.Alert{Subject: greatest}, api.Alert{Subject: least}, false},
		{api.Alert{Ring: least}, api.Alert{Ring: greatest}, true}, {api.Alert{Ring: greatest}, api.Alert{Ring: least}, false}, {api.Alert{Ring: greatest}, api.Alert{Ring: -1}, false},
		{api.Alert{Subject: -1, Ring: greatest}, api.Alert{Subject: 0, Ring: least}, true},
	} {
		if got := alerts.Less(c.a, c.b); got != c.want {
			t.Errorf("P6.1: Less(%v, %v) = %v", c.a, c.b, got)
		}
	}
}

func TestValidSets(t *testing.T) {
	for _, v := range views() {
		for _, set := range [][]api.Alert{nil, {}, all(v), some(v, 0, 2), some(v, 3, 7), some(v, 2, 1000)} {
			if !alerts.Valid(v, set) {
				t.Errorf("P6.1: a set of %d alerts is not valid in %v", len(set), v)
			}
		}
	}
}

// TestAllLists compares Valid with the rule for all lists of up to three of some alerts.
func TestAllLists(t *testing.T) {
	letters := []api.Alert{
		{View: 12, Ring: 0, Observer: 9, Subject: 2}, {View: 12, Ring: 1, Observer: 40, Subject: 2}, {View: 12, Ring: 4, Observer: 40, Subject: 2},
		{View: 12, Ring: 0, Observer: 2, Subject: 4}, {View: 12, Ring: 4, Observer: 2, Subject: 4}, {View: 12, Ring: 0, Observer: 5, Subject: 40}, {View: 12, Ring: 4, Observer: 2, Subject: 1000},
		{View: 11, Ring: 2, Observer: 5, Subject: 2}, {View: 13, Ring: 2, Observer: 5, Subject: 2}, {View: 12, Ring: 1, Observer: 9, Subject: 2}, {View: 12, Ring: 2, Observer: 40, Subject: 4},
		{View: 12, Ring: -1, Observer: 9, Subject: 2}, {View: 12, Ring: 5, Observer: 40, Subject: 2}, {View: 12, Ring: 0, Observer: 9, Subject: 0}, {View: 12, Ring: 0, Observer: 2, Subject: 1001}, {},
	}
	const valid = 7
	for i, a := range letters {
		check := func(set []api.Alert, possible bool) {
			t.Helper()
			if got := alerts.Valid(five(), set); got != (possible && ascending(set)) {
				t.Errorf("P6.1: Valid of %v in %v is %v", set, five(), got)
			}
		}
		check([]api.Alert{a}, i < valid)
		for j, b := range letters {
			check([]api.Alert{a, b}, i < valid && j < valid)
			for k, c := range letters {
				check([]api.Alert{a, b, c}, i < valid && j < valid && k < valid)
			}
		}
	}
}

// TestOneChange changes one alert of a valid set, or the place of one.
func TestOneChange(t *testing.T) {
	for _, v := range views() {
		possible := all(v)
		for _, set := range [][]api.Alert{some(v, 1, 300), possible[200:211]} {
			for i := range set {
				for _, n := range []int{-1000, -5, -1, 1, 5, 1000} {
					for _, field := range []func(a *api.Alert) *int{
						func(a *api.Alert) *int { return &a.View },
						func(a *api.Alert) *int { return &a.Ring },
						func(a *api.Alert) *int { return &a.Observer },
						func(a *api.Alert) *int { return &a.Subject },
					} {
						changed := slices.Clone(set)
						*field(&changed[i]) += n
						want := slices.Contains(possible, changed[i]) && ascending(changed)
						if got := alerts.Valid(v, changed); got != want {
							t.Fatalf("P6.1: Valid of %v in %v is %v", changed, v, got)
						}
					}
				}
				twice := slices.Insert(slices.Clone(set), i, set[i])
				turned := slices.Clone(set)
				turned[i], turned[0] = turned[0], turned[i]
				if alerts.Valid(v, twice) || i > 0 && alerts.Valid(v, turned) {
					t.Errorf("P6.1: %v or %v is valid in %v", twice, turned, v)
				}
			}
		}
	}
}

// TestBadViews asks for everything in views that are not valid: the empty set is not valid there, either.
func TestBadViews(t *testing.T) {
	one := api.Alert{Ring: 1, Observer: 3, Subject: 1}
	for _, v := range badViews() {
		one.View = v.Number
		for _, set := range [][]api.Alert{nil, {}, {one}} {
			if alerts.Valid(v, set) {
				t.Errorf("P6.1: %v is valid in %v", set, v)
			}
			for _, a := range []api.Alert{{}, one, {View: v.Number + 1, Ring: 1, Observer: 3, Subject: 1}} {
				if alerts.ValidAlert(v, a) {
					t.Errorf("P6.1: %v is valid in %v", a, v)
				}
				if next, added, err := alerts.Add(v, set, a); err != api.ErrInvalid || added || len(next) != 0 {
					t.Errorf("P6.2: Add of %v in %v = %v, %v, %d", a, v, next, added, err)
				}
			}
			for _, other := range [][]api.Alert{nil, {}, {one}} {
				if union, err := alerts.Merge(v, set, other); err != api.ErrInvalid || len(union) != 0 {
					t.Errorf("P6.2: Merge in %v = %v, %d", v, union, err)
				}
			}
			if b := alerts.Encode(v, set); b != nil {
				t.Errorf("P6.4: Encode of %v in %v = %x", set, v, b)
			}
		}
		for _, b := range []string{"", "\x00", "\x01\x01\x00", "\x80", "\x80\x00", "\xff\xff\x7f"} {
			if set, n, err := alerts.Decode(v, []byte(b)); err != api.ErrInvalid || n != 0 || len(set) != 0 {
				t.Errorf("P6.4: Decode of %x in %v = %v, %d, %d", b, v, set, n, err)
			}
		}
	}
}

// lists are lists that Count and Subjects are asked about, most of which are sets of no view.
func lists() [][]api.Alert {
	return [][]api.Alert{
		nil, {}, {{}}, {{Subject: -1}, {Subject: greatest}, {Subject: least}, {Subject: -1}},
		{{Subject: 9}, {Subject: 3}, {Subject: 9, Ring: 77}, {Subject: 3}, {Subject: 9}, {Subject: 1, View: -4, Observer: 9, Ring: 3}},
		some(five(), 0, 3), all(five()),
	}
}

func TestCount(t *testing.T) {
	l := lists()
	for _, c := range []struct {
		set           []api.Alert
		subject, want int
	}{
		{l[0], 0, 0}, {l[0], 1, 0}, {l[1], 0, 0}, {l[2], 0, 1}, {l[2], 1, 0}, {l[3], -1, 2}, {l[3], greatest, 1}, {l[3], least, 1}, {l[3], 0, 0},
		{l[4], 9, 3}, {l[4], 3, 2}, {l[4], 1, 1}, {l[4], 4, 0}, {l[4], -4, 0}, {l[4], 77, 0},
		{l[5], 1, 2}, {l[5], 2, 2}, {l[5], 3, 1}, {l[6], 2, 5}, {l[6], 1000, 5}, {l[6], 1001, 0}, {l[6], 0, 0}, {all(api.View{Members: []int{6}}), 6, 0},
	} {
		if got := alerts.Count(c.set, c.subject); got != c.want {
			t.Errorf("P6.3: Count(.., %d) = %d, not %d", c.subject, got, c.want)
		}
	}
}

func TestSubjects(t *testing.T) {
	l := lists()
	for i, want := range [][]int{{}, {}, {0}, {least, -1, greatest}, {1, 3, 9}, span(1, api.MaxMemberID), span(1, api.MaxMemberID)} {
		kept := slices.Clone(l[i])
		if got := alerts.Subjects(l[i]); !slices.Equal(got, want) || !slices.Equal(l[i], kept) {
			t.Errorf("P6.3: Subjects(%v) = %v, not %v, and leaves %v", kept, got, want, l[i])
		}
	}
	for i := range lists()[4] {
		turned := slices.Concat(l[4][i:], l[4][:i])
		if got := alerts.Subjects(turned); !slices.Equal(got, []int{1, 3, 9}) {
			t.Errorf("P6.3: Subjects(%v) = %v", turned, got)
		}
	}
}
