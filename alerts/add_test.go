package alerts_test

import (
	"slices"
	"testing"

	"actorgrid/alerts"
	"actorgrid/api"
)

// letters are eight valid alerts of the view five, sorted.
func letters() []api.Alert {
	return []api.Alert{
		{View: 12, Ring: 0, Observer: 9, Subject: 2}, {View: 12, Ring: 1, Observer: 40, Subject: 2}, {View: 12, Ring: 4, Observer: 40, Subject: 2},
		{View: 12, Ring: 1, Observer: 2, Subject: 4}, {View: 12, Ring: 2, Observer: 1000, Subject: 4}, {View: 12, Ring: 0, Observer: 5, Subject: 40},
		{View: 12, Ring: 0, Observer: 2, Subject: 1000}, {View: 12, Ring: 3, Observer: 40, Subject: 1000},
	}
}

// subset returns the letters whose bits are set.
func subset(bits int) []api.Alert {
	var l []api.Alert
	for i, a := range letters() {
		if bits>>i&1 == 1 {
			l = append(l, a)
		}
	}
	return l
}

func checkAdd(t *testing.T, v api.View, set []api.Alert, a api.Alert, want []api.Alert, wanted bool) {
	t.Helper()
	next, added, err := alerts.Add(v, set, a)
	if err != api.OK || added != wanted || !slices.Equal(next, want) {
		t.Errorf("P6.2: Add(%v, %v) = %v, %v, %d, not %v, %v", set, a, next, added, err, want, wanted)
	}
	if !alerts.Valid(v, next) {
		t.Errorf("P6.2: Add returns %v, which is not valid in %v", next, v)
	}
}

func TestAdd(t *testing.T) {
	first, second, joiner := api.Alert{View: 12, Ring: 0, Observer: 9, Subject: 2}, api.Alert{View: 12, Ring: 3, Observer: 1000, Subject: 2}, api.Alert{View: 12, Ring: 0, Observer: 2, Subject: 4}
	for _, none := range [][]api.Alert{nil, {}} {
		checkAdd(t, five(), none, first, []api.Alert{first}, true)
	}
	checkAdd(t, five(), []api.Alert{first}, first, []api.Alert{first}, false)
	checkAdd(t, five(), []api.Alert{first}, second, []api.Alert{first, second}, true)
	checkAdd(t, five(), []api.Alert{second}, first, []api.Alert{first, second}, true)
	checkAdd(t, five(), []api.Alert{first, joiner}, second, []api.Alert{first, second, joiner}, true)
	checkAdd(t, five(), []api.Alert{first, second}, joiner, []api.Alert{first, second, joiner}, true)
	checkAdd(t, five(), []api.Alert{first, second, joiner}, second, []api.Alert{first, second, joiner}, false)
	two := api.View{Number: 3, Members: []int{1, 2}}
	checkAdd(t, two, nil, api.Alert{View: 3, Ring: 4, Observer: 1, Subject: 2}, []api.Alert{{View: 3, Ring: 4, Observer: 1, Subject: 2}}, true)
}

// TestAddToAllSets adds each of the letters to each set of them.
func TestAddToAllSets(t *testing.T) {
	for bits := range 1 << 8 {
		for i, a := range letters() {
			checkAdd(t, five(), subset(bits), a, subset(bits|1<<i), bits>>i&1 == 0)
		}
	}
}

// TestAddToGreatSets adds to sets of half and of all of the valid alerts.
func TestAddToGreatSets(t *testing.T) {
	for _, v := range views() {
		full, half := all(v), some(v, 0, 2)
		for i := 0; i < len(full); i += 457 {
			want, wanted := half, i%2 == 1
			if wanted {
				want = slices.Insert(slices.Clone(half), (i+1)/2, full[i])
			}
			checkAdd(t, v, half, full[i], want, wanted)
			checkAdd(t, v, full, full[i], full, false)
		}
	}
}

func checkAddRefuses(t *testing.T, v api.View, set []api.Alert, a api.Alert, want api.Errno) {
	t.Helper()
	if next, added, err := alerts.Add(v, set, a); err != want || added || len(next) != 0 {
		t.Errorf("P6.2: Add of %v to %v in %v = %v, %v, %d, not the error %d", a, set, v, next, added, err, want)
	}
}

// TestAddErrors tests each error, together with those that come after it.
func TestAddErrors(t *testing.T) {
	for _, set := range [][]api.Alert{nil, subset(1), subset(255)} {
		for _, number := range []int{12, 11, 13, -1, 0, least, greatest} {
			for _, n := range []int{least, -1, 0, 1001, greatest} {
				checkAddRefuses(t, five(), set, api.Alert{View: number, Ring: 0, Observer: n, Subject: 2}, api.ErrInvalid)
				checkAddRefuses(t, five(), set, api.Alert{View: number, Ring: 0, Observer: 9, Subject: n}, api.ErrInvalid)
				checkAddRefuses(t, five(), set, api.Alert{View: number, Ring: 0, Observer: 7, Subject: n}, api.ErrInvalid)
			}
			for _, ring := range []int{least, -1, 5, 6, greatest} {
				checkAddRefuses(t, five(), set, api.Alert{View: number, Ring: ring, Observer: 9, Subject: 2}, api.ErrInvalid)
			}
			if number == 12 {
				continue
			}
			for _, observer := range []int{9, 40, 7, 2, 1, 1000} { // whether the alert would be valid there does not matter
				checkAddRefuses(t, five(), set, api.Alert{View: number, Ring: 0, Observer: observer, Subject: 2}, api.ErrStale)
			}
		}
		for _, observer := range []int{40, 5, 1000, 2, 7, 1, 999} {
			checkAddRefuses(t, five(), set, api.Alert{View: 12, Ring: 0, Observer: observer, Subject: 2}, api.ErrNotFound)
		}
	}
	one := api.View{Members: []int{6}}
	checkAddRefuses(t, one, nil, api.Alert{Ring: 0, Observer: 6, Subject: 6}, api.ErrNotFound)
	checkAddRefuses(t, one, nil, api.Alert{View: 1, Ring: 0, Observer: 6, Subject: 6}, api.ErrStale)
	checkAddRefuses(t, one, nil, api.Alert{Ring: 0, Observer: 7, Subject: 8}, api.ErrNotFound)
	two := api.View{Number: 3, Members: []int{1, 2}}
	checkAddRefuses(t, two, nil, api.Alert{View: 2, Ring: 0, Observer: 1, Subject: 2}, api.ErrStale)
	checkAddRefuses(t, two, nil, api.Alert{View: 3, Ring: 0, Observer: 2, Subject: 2}, api.ErrNotFound)
}

// TestAddBounds adds alerts at the bounds of what is in range.
func TestAddBounds(t *testing.T) {
	v := api.View{Number: 5, Members: []int{1, api.MaxMemberID}}
	for ring := range api.Rings {
		for _, a := range []api.Alert{{View: 5, Ring: ring, Observer: 1, Subject: api.MaxMemberID}, {View: 5, Ring: ring, Observer: api.MaxMemberID, Subject: 1}} {
			checkAdd(t, v, nil, a, []api.Alert{a}, true)
		}
	}
}

// badSets are lists that are no sets of the view five.
func badSets() [][]api.Alert {
	l := letters()
	older := slices.Clone(l)
	for i := range older {
		older[i].View--
	}
	return [][]api.Alert{
		{l[0], l[0]}, {l[1], l[0]}, {l[0], l[3], l[2]}, {l[0], l[1], l[1]}, older, older[:1], {l[0], older[1]}, {{}}, {l[0], {View: 12, Ring: 2, Observer: 40, Subject: 2}},
		{{View: 12, Ring: -1, Observer: 40, Subject: 2}}, {{View: 12, Ring: 5, Observer: 40, Subject: 2}}, {{View: 12, Ring: 0, Observer: 2, Subject: 0}}, {{View: 12, Ring: 0, Observer: 2, Subject: 1001}},
	}
}

func TestBadSets(t *testing.T) {
	good := [][]api.Alert{nil, subset(1), subset(255)}
	for _, bad := range badSets() {
		if alerts.Valid(five(), bad) {
			t.Errorf("P6.1: %v is valid in %v", bad, five())
		}
		for _, a := range []api.Alert{letters()[0], letters()[7], {}, {View: 11, Ring: 0, Observer: 9, Subject: 2}, {View: 12, Ring: 0, Observer: 7, Subject: 2}} {
			checkAddRefuses(t, five(), bad, a, api.ErrInvalid)
		}
		for _, other := range append(good, badSets()...) {
			for _, sets := range [][2][]api.Alert{{bad, other}, {other, bad}} {
				if union, err := alerts.Merge(five(), sets[0], sets[1]); err != api.ErrInvalid || len(union) != 0 {
					t.Errorf("P6.2: Merge(%v, %v) = %v, %d", sets[0], sets[1], union, err)
				}
			}
		}
		if b := alerts.Encode(five(), bad); b != nil {
			t.Errorf("P6.4: Encode(%v) = %x", bad, b)
		}
	}
}

// merge merges two sets that are valid.
func merge(t *testing.T, v api.View, a, b []api.Alert) []api.Alert {
	t.Helper()
	union, err := alerts.Merge(v, a, b)
	if err != api.OK || !alerts.Valid(v, union) {
		t.Errorf("P6.2: Merge(%v, %v) = %v, %d", a, b, union, err)
	}
	return union
}

// TestMerge merges all sets of the letters.
func TestMerge(t *testing.T) {
	for a := range 1 << 8 {
		for b := range 1 << 8 {
			if got, want := merge(t, five(), subset(a), subset(b)), subset(a|b); !slices.Equal(got, want) {
				t.Errorf("P6.2: Merge(%v, %v) = %v, not %v", subset(a), subset(b), got, want)
			}
		}
	}
	for _, v := range views() {
		third := [3][]api.Alert{some(v, 0, 3), some(v, 1, 3), some(v, 2, 3)}
		union := merge(t, v, merge(t, v, third[2], third[0]), merge(t, v, third[0], third[1]))
		if !slices.Equal(union, all(v)) || len(merge(t, v, nil, []api.Alert{})) != 0 {
			t.Errorf("P6.2: Merge of all valid alerts of %v has %d alerts", v, len(union))
		}
	}
}

// TestLaws compares merged sets with one another, not with what they should be.
func TestLaws(t *testing.T) {
	equal := func(name string, a, b []api.Alert) {
		t.Helper()
		if !slices.Equal(a, b) {
			t.Errorf("P6.5: Merge is not %s: %v and %v", name, a, b)
		}
	}
	for i := range 1 << 6 {
		a := subset(i * 37 % 256)
		equal("idempotent", merge(t, five(), a, a), a)
		for j := range 1 << 6 {
			b := subset(j * 91 % 256)
			both := merge(t, five(), a, b)
			equal("commutative", both, merge(t, five(), b, a))
			equal("idempotent", both, merge(t, five(), both, b))
			for k := range 4 {
				c := subset((i*11 + j*5 + k*77) % 256)
				equal("associative", merge(t, five(), both, c), merge(t, five(), a, merge(t, five(), b, c)))
			}
		}
	}
}

// orders calls f with all orders of l.
func orders(l []api.Alert, n int, f func(order []api.Alert)) {
	if n == len(l) {
		f(l)
		return
	}
	for i := n; i < len(l); i++ {
		l[n], l[i] = l[i], l[n]
		orders(l, n+1, f)
		l[n], l[i] = l[i], l[n]
	}
}

// addAll adds alerts one after the other and returns the set and how many were new.
func addAll(t *testing.T, v api.View, l []api.Alert) ([]api.Alert, int) {
	t.Helper()
	var set []api.Alert
	count := 0
	for _, a := range l {
		next, added, err := alerts.Add(v, set, a)
		if err != api.OK {
			t.Fatalf("P6.5: Add of %v to %v: %d", a, set, err)
		}
		if added {
			count++
		}
		set = next
	}
	return set, count
}

// TestAllOrders adds six alerts, one of them twice, in all orders.
func TestAllOrders(t *testing.T) {
	l := append(subset(0b10110111), letters()[2])
	orders(l, 0, func(order []api.Alert) {
		if set, count := addAll(t, five(), order); !slices.Equal(set, subset(0b10110111)) || count != 6 {
			t.Errorf("P6.5: adding %v gives %v and %d new alerts", order, set, count)
		}
	})
}

// TestManyOrders adds the alerts about the members and some joiners in orders that a step through the list makes.
func TestManyOrders(t *testing.T) {
	for _, v := range views() {
		l := slices.DeleteFunc(all(v), func(a api.Alert) bool { return a.Subject > 19 })
		n := len(l)
		for _, step := range []int{1, 2, 7, 31, n - 1} {
			for n%step == 0 && step > 1 {
				step++
			}
			var order []api.Alert
			for i := range n {
				order = append(order, l[(3+i*step)%n])
			}
			for i := range order {
				if !slices.Contains(order, l[i]) {
					order = append(order, l[i])
				}
			}
			if set, count := addAll(t, v, order); !slices.Equal(set, l) || count != n {
				t.Errorf("P6.5: adding %d alerts of %v by steps of %d gives %d, and %d new ones", n, v, step, len(set), count)
			}
		}
	}
}

// TestElderSetsStay adds to and merges sets that have room behind them, and changes the results.
func TestElderSetsStay(t *testing.T) {
	for bits := range 1 << 8 {
		set, other := roomy(subset(bits)), roomy(subset(bits*53%256))
		kept, keptOther := slices.Clone(set[:len(set)+20]), slices.Clone(other[:len(other)+20])
		var results, wanted [][]api.Alert
		for i, a := range letters() {
			next, _, _ := alerts.Add(five(), set, a)
			results, wanted = append(results, next), append(wanted, subset(bits|1<<i))
		}
		for _, sets := range [][2][]api.Alert{{set, other}, {other, set}, {set, set}, {set, nil}, {nil, set}} {
			union, _ := alerts.Merge(five(), sets[0], sets[1])
			results, wanted = append(results, union), append(wanted, slices.Clone(union))
		}
		for i, next := range results {
			if !slices.Equal(next, wanted[i]) {
				t.Errorf("P6.2: result %d of %v is %v, not %v", i, subset(bits), next, wanted[i])
			}
			whole := next[:cap(next)]
			for j := range whole {
				whole[j] = api.Alert{View: -100 - i}
			}
		}
		if !slices.Equal(set[:len(set)+20], kept) || !slices.Equal(other[:len(other)+20], keptOther) {
			t.Fatalf("P6.2: the elder set %v or %v is changed", subset(bits), subset(bits*53%256))
		}
	}
}
