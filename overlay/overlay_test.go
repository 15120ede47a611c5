package overlay_test

import (
	"math"
	"slices"
	"testing"

	"actorgrid/api"
	"actorgrid/hashing"
	"actorgrid/overlay"
)

const (
	least    = math.MinInt
	greatest = math.MaxInt
)

// span returns the identifiers from one to another one.
func span(from, to int) []int {
	var l []int
	for id := from; id <= to; id++ {
		l = append(l, id)
	}
	return l
}

// lists are all lists of the identifiers 1 to 8, and some with more or greater ones.
func lists() [][]int {
	ls := [][]int{
		span(1, api.MaxMembers), span(2, api.MaxMembers), span(api.MaxMemberID-api.MaxMembers+1, api.MaxMemberID),
		{api.MaxMemberID}, {1, api.MaxMemberID}, {2, 5, 9, 40, 1000}, {17, 33, 404, 405, 406, 700, 701, 812, 999},
	}
	for set := 1; set < 1<<8; set++ {
		var l []int
		for i := range 8 {
			if set>>i&1 == 1 {
				l = append(l, i+1)
			}
		}
		ls = append(ls, l)
	}
	return ls
}

func badLists() [][]int {
	return [][]int{
		nil, {}, {0}, {-1}, {least}, {greatest}, {api.MaxMemberID + 1},
		{0, 1, 2}, {-1, 1, 2}, {1, 1}, {1, 2, 2}, {2, 1}, {1, 3, 2}, {1, 2, api.MaxMemberID + 1},
		span(1, api.MaxMembers+1), span(1, 2*api.MaxMembers), span(1, api.MaxMemberID),
	}
}

func badIDs() []int {
	return []int{0, -1, -2, -api.MaxMemberID, least, api.MaxMemberID + 1, api.MaxMemberID + 2, 1 << 32, greatest}
}

// ids are the identifiers that the tests ask each list about.
func ids() []int {
	return append(span(1, 20), 404, 500, 702, 984, 985, 999, api.MaxMemberID)
}

// nearest returns the member other than id that comes first on the way around the ring from id, backwards or forwards, or 0 if there is none. The distance on the circle wraps around as the words do.
func nearest(members []int, ring, id int, forwards bool) int {
	found, distance := 0, uint64(0)
	for _, m := range members {
		d := hashing.Position(ring, id) - hashing.Position(ring, m)
		if forwards {
			d = -d
		}
		if m != id && (found == 0 || d < distance) {
			found, distance = m, d
		}
	}
	return found
}

// around returns nearest for each ring, or no identifiers if the list has none but id.
func around(members []int, id int, forwards bool) []int {
	var l []int
	for ring := range api.Rings {
		if m := nearest(members, ring, id, forwards); m != 0 {
			l = append(l, m)
		}
	}
	return l
}

// fiveOrders are the rings of the members 2, 5, 9, 40 and 1000.
func fiveOrders() [api.Rings][]int {
	return [api.Rings][]int{{2, 1000, 5, 40, 9}, {1000, 5, 9, 40, 2}, {1000, 5, 2, 9, 40}, {40, 1000, 2, 5, 9}, {1000, 9, 5, 40, 2}}
}

// fullOrders are the rings of the members 1 to 16.
func fullOrders() [api.Rings][]int {
	return [api.Rings][]int{
		{2, 4, 6, 8, 5, 10, 1, 16, 15, 12, 13, 14, 11, 7, 9, 3},
		{15, 8, 10, 14, 4, 3, 12, 7, 13, 11, 16, 1, 5, 9, 6, 2},
		{16, 15, 8, 4, 10, 5, 13, 11, 12, 2, 6, 9, 7, 1, 3, 14},
		{3, 6, 4, 16, 13, 12, 8, 2, 5, 10, 1, 11, 14, 15, 9, 7},
		{8, 4, 7, 3, 9, 12, 5, 16, 13, 11, 10, 15, 14, 2, 1, 6},
	}
}

func TestOrder(t *testing.T) {
	check := func(members []int, ring int, want []int) {
		t.Helper()
		if got := overlay.Order(members, ring); !slices.Equal(got, want) {
			t.Errorf("P4.1: Order(%v, %d) = %v, not %v", members, ring, got, want)
		}
	}
	five, full := fiveOrders(), fullOrders()
	for ring := range api.Rings {
		check([]int{1}, ring, []int{1})
		check([]int{api.MaxMemberID}, ring, []int{api.MaxMemberID})
		check([]int{2, 5, 9, 40, 1000}, ring, five[ring])
		check(span(1, api.MaxMembers), ring, full[ring])
	}
	check([]int{1, 3}, 0, []int{1, 3})
	check([]int{1, 3}, 1, []int{3, 1})
}

func TestOrderOfAllLists(t *testing.T) {
	for _, members := range lists() {
		for ring := range api.Rings {
			order := overlay.Order(members, ring)
			for i := 1; i < len(order); i++ {
				if hashing.Position(ring, order[i-1]) >= hashing.Position(ring, order[i]) {
					t.Errorf("P4.1: Order(%v, %d) = %v is not ascending at %d", members, ring, order, i)
				}
			}
			if sorted := slices.Sorted(slices.Values(order)); !slices.Equal(sorted, members) {
				t.Errorf("P4.1: Order(%v, %d) = %v has other members", members, ring, order)
			}
		}
	}
}

func TestOrderOfInvalidArguments(t *testing.T) {
	for _, ring := range []int{-1, -2, least, api.Rings, api.Rings + 1, api.MaxMemberID, 1 << 32, greatest} {
		for _, members := range [][]int{{1}, {1, 2, 3}, span(1, api.MaxMembers)} {
			if got := overlay.Order(members, ring); len(got) != 0 {
				t.Errorf("P4.1: Order(%v, %d) = %v, not empty", members, ring, got)
			}
		}
	}
	for _, members := range badLists() {
		for ring := -1; ring <= api.Rings; ring++ {
			if got := overlay.Order(members, ring); len(got) != 0 {
				t.Errorf("P4.1: Order(%v, %d) = %v, not empty", members, ring, got)
			}
		}
	}
}

func TestObservers(t *testing.T) {
	few, five, full := []int{1, 2, 3}, []int{2, 5, 9, 40, 1000}, span(1, api.MaxMembers)
	for _, c := range []struct {
		members []int
		id      int
		want    []int
	}{
		{few, 1, []int{2, 3, 2, 2, 2}}, {few, 2, []int{3, 1, 3, 3, 3}}, {few, 3, []int{1, 2, 1, 1, 1}},
		{few, 4, []int{2, 2, 3, 3, 1}}, {few, 7, []int{1, 3, 2, 1, 1}}, {few, 500, []int{2, 3, 3, 3, 1}},
		{five, 2, []int{9, 40, 5, 1000, 40}}, {five, 1000, []int{2, 2, 40, 40, 2}}, {five, 40, []int{5, 9, 9, 9, 5}},
		{five, 4, []int{2, 2, 1000, 40, 2}}, {five, 7, []int{40, 1000, 9, 9, 2}}, {five, 500, []int{1000, 1000, 1000, 1000, 2}},
		{full, 1, []int{10, 16, 7, 10, 2}}, {full, 8, []int{6, 15, 15, 12, 6}}, {full, 16, []int{1, 11, 14, 4, 5}},
		{full, 17, []int{11, 9, 5, 3, 6}}, {full, 1000, []int{6, 12, 14, 4, 3}},
	} {
		if got := overlay.Observers(c.members, c.id); !slices.Equal(got, c.want) {
			t.Errorf("P4.2: Observers(%v, %d) = %v, not %v", c.members, c.id, got, c.want)
		}
	}
}

func TestObserversOfAllLists(t *testing.T) {
	for _, members := range lists() {
		for _, id := range ids() {
			if got, want := overlay.Observers(members, id), around(members, id, false); !slices.Equal(got, want) {
				t.Errorf("P4.2: Observers(%v, %d) = %v, not %v", members, id, got, want)
			}
		}
	}
}

// TestJoinersAtTheEnds asks about the identifiers with the least and the greatest position of all on each ring, which are not members: both have the last member of the ring as their observer.
func TestJoinersAtTheEnds(t *testing.T) {
	for ring, c := range [api.Rings]struct{ first, last, ofThree, ofSixteen int }{
		{410, 490, 3, 3}, {98, 886, 2, 2}, {108, 439, 3, 14}, {209, 582, 1, 7}, {42, 753, 1, 6},
	} {
		for _, id := range []int{c.first, c.last} {
			if got := overlay.Observers([]int{1, 2, 3}, id); len(got) != api.Rings || got[ring] != c.ofThree {
				t.Errorf("P4.2: Observers([1 2 3], %d) = %v, not %d on ring %d", id, got, c.ofThree, ring)
			}
			if got := overlay.Observers(span(1, api.MaxMembers), id); len(got) != api.Rings || got[ring] != c.ofSixteen {
				t.Errorf("P4.2: Observers([1..16], %d) = %v, not %d on ring %d", id, got, c.ofSixteen, ring)
			}
		}
	}
}

// TestJoinersBecomeMembers inserts each identifier that is not a member: its observers stay the same.
func TestJoinersBecomeMembers(t *testing.T) {
	for _, members := range lists() {
		for _, id := range ids() {
			place, found := slices.BinarySearch(members, id)
			if found || len(members) == api.MaxMembers {
				continue
			}
			joined := slices.Insert(slices.Clone(members), place, id)
			if before, after := overlay.Observers(members, id), overlay.Observers(joined, id); len(before) != api.Rings || !slices.Equal(before, after) {
				t.Errorf("P4.2: the observers of %d are %v before it joins %v, and %v after that", id, before, members, after)
			}
		}
	}
}

func TestOneMember(t *testing.T) {
	for _, id := range []int{1, 2, 77, api.MaxMemberID} {
		members := []int{id}
		if o, n := overlay.Observers(members, id), overlay.Neighbours(members, id); len(o)+len(n) != 0 {
			t.Errorf("P4.2: the only member %d has the observers %v and the neighbours %v", id, o, n)
		}
		if s, r := overlay.Subjects(members, id), overlay.Shared(members, id, id); len(s)+len(r) != 0 {
			t.Errorf("P4.3: the only member %d has the subjects %v and observes itself on %v", id, s, r)
		}
		if got, want := overlay.Observers(members, 500), []int{id, id, id, id, id}; !slices.Equal(got, want) {
			t.Errorf("P4.2: Observers(%v, 500) = %v, not %v", members, got, want)
		}
		if got := overlay.Subjects(members, 500); len(got) != 0 {
			t.Errorf("P4.3: Subjects(%v, 500) = %v, not empty", members, got)
		}
		if got := overlay.Shared(members, id, 500); !slices.Equal(got, []int{0, 1, 2, 3, 4}) {
			t.Errorf("P4.4: Shared(%v, %d, 500) = %v, not all rings", members, id, got)
		}
		if got := overlay.Neighbours(members, 500); !slices.Equal(got, members) {
			t.Errorf("P4.4: Neighbours(%v, 500) = %v, not the one member", members, got)
		}
	}
}

func TestTwoMembers(t *testing.T) {
	for _, members := range [][]int{{1, 2}, {1, api.MaxMemberID}, {999, api.MaxMemberID}, {4, 7}} {
		for i, id := range members {
			other := members[1-i]
			want := []int{other, other, other, other, other}
			if got := overlay.Observers(members, id); !slices.Equal(got, want) {
				t.Errorf("P4.2: Observers(%v, %d) = %v, not %v", members, id, got, want)
			}
			if got := overlay.Subjects(members, id); !slices.Equal(got, want) {
				t.Errorf("P4.3: Subjects(%v, %d) = %v, not %v", members, id, got, want)
			}
			if got := overlay.Shared(members, id, other); !slices.Equal(got, []int{0, 1, 2, 3, 4}) {
				t.Errorf("P4.4: Shared(%v, %d, %d) = %v, not all rings", members, id, other, got)
			}
			if got := overlay.Neighbours(members, id); !slices.Equal(got, []int{other}) {
				t.Errorf("P4.4: Neighbours(%v, %d) = %v, not [%d]", members, id, got, other)
			}
		}
	}
}

func TestSubjects(t *testing.T) {
	few, five, full := []int{1, 2, 3}, []int{2, 5, 9, 40, 1000}, span(1, api.MaxMembers)
	for _, c := range []struct {
		members []int
		id      int
		want    []int
	}{
		{few, 1, []int{3, 2, 3, 3, 3}}, {few, 2, []int{1, 3, 1, 1, 1}}, {few, 3, []int{2, 1, 2, 2, 2}}, {few, 4, nil}, {few, 500, nil},
		{five, 2, []int{1000, 1000, 9, 5, 1000}}, {five, 9, []int{2, 40, 40, 40, 5}}, {five, 1000, []int{5, 5, 5, 2, 9}}, {five, 1, nil}, {five, 41, nil}, {five, 999, nil},
		{full, 1, []int{16, 5, 3, 11, 6}}, {full, 8, []int{5, 10, 4, 2, 4}}, {full, 16, []int{15, 1, 15, 13, 13}}, {full, 17, nil}, {full, 1000, nil},
	} {
		if got := overlay.Subjects(c.members, c.id); !slices.Equal(got, c.want) {
			t.Errorf("P4.3: Subjects(%v, %d) = %v, not %v", c.members, c.id, got, c.want)
		}
	}
	for _, members := range lists() {
		for _, id := range ids() {
			var want []int
			if slices.Contains(members, id) {
				want = around(members, id, true)
			}
			if got := overlay.Subjects(members, id); !slices.Equal(got, want) {
				t.Errorf("P4.3: Subjects(%v, %d) = %v, not %v", members, id, got, want)
			}
		}
	}
}

func TestShared(t *testing.T) {
	few, five := []int{1, 2, 3}, []int{2, 5, 9, 40, 1000}
	for _, c := range []struct {
		members           []int
		observer, subject int
		want              []int
	}{
		{few, 2, 1, []int{0, 2, 3, 4}}, {few, 3, 1, []int{1}}, {few, 1, 2, []int{1}}, {few, 1, 3, []int{0, 2, 3, 4}}, {few, 1, 1, nil},
		{few, 2, 4, []int{0, 1}}, {few, 3, 4, []int{2, 3}}, {few, 1, 4, []int{4}}, {few, 4, 1, nil}, {few, 4, 4, nil}, {few, 4, 500, nil},
		{five, 40, 2, []int{1, 4}}, {five, 9, 40, []int{1, 2, 3}}, {five, 1000, 40, nil}, {five, 1000, 500, []int{0, 1, 2, 3}},
	} {
		if got := overlay.Shared(c.members, c.observer, c.subject); !slices.Equal(got, c.want) {
			t.Errorf("P4.4: Shared(%v, %d, %d) = %v, not %v", c.members, c.observer, c.subject, got, c.want)
		}
	}
	for _, members := range lists() {
		for _, subject := range ids() {
			observers := around(members, subject, false)
			for _, observer := range append(ids(), badIDs()...) {
				var want []int
				for ring, id := range observers {
					if id == observer {
						want = append(want, ring)
					}
				}
				if got := overlay.Shared(members, observer, subject); !slices.Equal(got, want) {
					t.Errorf("P4.4: Shared(%v, %d, %d) = %v, not %v", members, observer, subject, got, want)
				}
			}
		}
	}
}

func TestNeighbours(t *testing.T) {
	five, full := []int{2, 5, 9, 40, 1000}, span(1, api.MaxMembers)
	for _, c := range []struct {
		members []int
		id      int
		want    []int
	}{
		{[]int{1, 2, 3}, 1, []int{2, 3}}, {[]int{1, 2, 3}, 4, []int{1, 2, 3}}, {[]int{1, 2, 3}, 500, []int{1, 2, 3}},
		{five, 2, []int{5, 9, 40, 1000}}, {five, 1000, []int{2, 5, 9, 40}}, {five, 4, []int{2, 40, 1000}}, {five, 500, []int{2, 1000}},
		{full, 1, []int{2, 3, 5, 6, 7, 10, 11, 16}}, {full, 8, []int{2, 4, 5, 6, 10, 12, 15}}, {full, 17, []int{3, 5, 6, 9, 11}},
	} {
		if got := overlay.Neighbours(c.members, c.id); !slices.Equal(got, c.want) {
			t.Errorf("P4.4: Neighbours(%v, %d) = %v, not %v", c.members, c.id, got, c.want)
		}
	}
	for _, members := range lists() {
		for _, id := range ids() {
			var want []int
			for other := 1; other <= api.MaxMemberID; other++ {
				behind := slices.Contains(members, id) && slices.Contains(around(members, id, true), other)
				if slices.Contains(members, other) && (behind || slices.Contains(around(members, id, false), other)) {
					want = append(want, other)
				}
			}
			if got := overlay.Neighbours(members, id); !slices.Equal(got, want) {
				t.Errorf("P4.4: Neighbours(%v, %d) = %v, not %v", members, id, got, want)
			}
		}
	}
}

func TestEdges(t *testing.T) {
	for _, members := range lists() {
		if len(members) < 2 {
			continue
		}
		observed, observing := map[int]int{}, map[int]int{}
		for _, id := range members {
			observers, subjects := overlay.Observers(members, id), overlay.Subjects(members, id)
			if len(observers) != api.Rings || len(subjects) != api.Rings {
				t.Fatalf("P4.5: %d of %v has the observers %v and the subjects %v", id, members, observers, subjects)
			}
			for ring := range api.Rings {
				observing[observers[ring]]++
				observed[subjects[ring]]++
				if back := overlay.Observers(members, subjects[ring]); len(back) != api.Rings || back[ring] != id {
					t.Errorf("P4.5: %d of %v has the subject %d on ring %d, but is not its observer", id, members, subjects[ring], ring)
				}
			}
		}
		for _, id := range members {
			if observing[id] != api.Rings || observed[id] != api.Rings {
				t.Errorf("P4.5: %d of %v occurs %d times as an observer and %d times as a subject", id, members, observing[id], observed[id])
			}
		}
		if len(observing) != len(members) || len(observed) != len(members) {
			t.Errorf("P4.5: others than the members of %v observe or are observed", members)
		}
	}
}

func TestRemoval(t *testing.T) {
	for _, members := range lists() {
		if len(members) < 3 {
			continue
		}
		for i, removed := range members {
			checkRemoval(t, members, slices.Delete(slices.Clone(members), i, i+1), removed)
		}
	}
}

// checkRemoval compares the edges of all members with those after the removal of one of them.
func checkRemoval(t *testing.T, members, rest []int, removed int) {
	t.Helper()
	before, after := overlay.Observers(members, removed), overlay.Subjects(members, removed)
	for _, id := range rest {
		observers, subjects := overlay.Observers(members, id), overlay.Subjects(members, id)
		for ring := range api.Rings {
			if id == after[ring] {
				observers[ring] = before[ring]
			}
			if id == before[ring] {
				subjects[ring] = after[ring]
			}
		}
		if got := overlay.Observers(rest, id); !slices.Equal(got, observers) {
			t.Errorf("P4.5: without %d, %d of %v has the observers %v, not %v", removed, id, members, got, observers)
		}
		if got := overlay.Subjects(rest, id); !slices.Equal(got, subjects) {
			t.Errorf("P4.5: without %d, %d of %v has the subjects %v, not %v", removed, id, members, got, subjects)
		}
	}
}

// checkEmpty expects no edges at id, neither as an observer nor as a subject.
func checkEmpty(t *testing.T, members []int, id int) {
	t.Helper()
	if got := overlay.Observers(members, id); len(got) != 0 {
		t.Errorf("P4.2: Observers(%v, %d) = %v, not empty", members, id, got)
	}
	if got := overlay.Subjects(members, id); len(got) != 0 {
		t.Errorf("P4.3: Subjects(%v, %d) = %v, not empty", members, id, got)
	}
	if got := overlay.Neighbours(members, id); len(got) != 0 {
		t.Errorf("P4.4: Neighbours(%v, %d) = %v, not empty", members, id, got)
	}
	for _, other := range []int{1, 2, 3, 4, id} {
		if got := overlay.Shared(members, id, other); len(got) != 0 {
			t.Errorf("P4.4: Shared(%v, %d, %d) = %v, not empty", members, id, other, got)
		}
		if got := overlay.Shared(members, other, id); len(got) != 0 {
			t.Errorf("P4.4: Shared(%v, %d, %d) = %v, not empty", members, other, id, got)
		}
	}
}

func TestInvalidArguments(t *testing.T) {
	for _, id := range badIDs() {
		for _, members := range [][]int{{1}, {1, 2}, {1, 2, 3}, span(1, api.MaxMembers), {api.MaxMemberID}} {
			checkEmpty(t, members, id)
		}
	}
	for _, members := range badLists() {
		for _, id := range append(badIDs(), 1, 2, 3, 17, 500, api.MaxMemberID) {
			checkEmpty(t, members, id)
		}
	}
}

// TestMemory changes the results and looks whether the arguments or other results change with them.
func TestMemory(t *testing.T) {
	members := append(make([]int, 0, 20), 2, 5, 9, 40, 1000)
	results := [][]int{
		overlay.Order(members, 0), overlay.Order(members, 0), overlay.Order([]int{7}, 1),
		overlay.Observers(members, 9), overlay.Observers(members, 9), overlay.Observers(members, 500),
		overlay.Subjects(members, 9), overlay.Neighbours(members, 9), overlay.Neighbours(members, 500),
		overlay.Shared(members, 1000, 500), overlay.Shared(members, 9, 40),
	}
	for i, l := range results {
		_ = append(l, 77)
		for j := range l {
			l[j] = 1000 * (i + 1)
		}
	}
	for i, l := range results {
		for _, n := range l {
			if n != 1000*(i+1) {
				t.Errorf("P4.1: result %d shares memory with another one", i)
			}
		}
	}
	if !slices.Equal(members[:6], []int{2, 5, 9, 40, 1000, 0}) {
		t.Errorf("P4.1: the members are changed: %v", members[:6])
	}
}
