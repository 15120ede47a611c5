package cut_test

import (
	"math/rand"
	"slices"
	"testing"

	"actorgrid/alerts"
	"actorgrid/api"
	"actorgrid/cut"
	"actorgrid/overlay"
	"actorgrid/view"
)

// TestProposalLimits proposes all alerts about some subjects, of which the last joiners are left out while there is no room for them.
func TestProposalLimits(t *testing.T) {
	sixteen, fourteen := api.View{Number: 7, Members: span(1, 16)}, api.View{Members: span(11, 24)}
	great := api.View{Number: 2, Members: append(span(1, 14), 1000)}
	last, late := api.View{Number: api.MaxNumber, Members: span(1, 5)}, api.View{Number: api.MaxNumber - 1, Members: span(1, 5)}
	one := api.View{Number: 1, Members: []int{6}}
	for _, c := range []struct {
		v                  api.View
		subjects, proposal []int
	}{
		{sixteen, []int{3}, []int{3}},
		{sixteen, []int{20}, nil},
		{sixteen, []int{20, 21, 22}, nil},
		{sixteen, []int{3, 20}, []int{3, 20}},
		{sixteen, []int{3, 20, 21}, []int{3, 20}},
		{sixteen, []int{3, 20, 21, 22, 999, 1000}, []int{3, 20}},
		{sixteen, []int{3, 5, 17, 18, 500}, []int{3, 5, 17, 18}},
		{sixteen, append(span(1, 7), span(30, 36)...), append(span(1, 7), span(30, 36)...)},
		{sixteen, append(span(1, 7), span(30, 37)...), append(span(1, 7), span(30, 36)...)},
		{sixteen, append(span(1, 7), span(30, 54)...), append(span(1, 7), span(30, 36)...)},
		{fourteen, []int{100, 200}, []int{100, 200}},
		{fourteen, []int{100, 200, 300}, []int{100, 200}},
		{fourteen, []int{1, 2, 3, 4, 5}, []int{1, 2}},
		{fourteen, []int{1, 2, 3, 20, 24, 30}, []int{1, 2, 3, 20, 24, 30}},
		{fourteen, []int{1, 2, 3, 20, 24, 30, 31}, []int{1, 2, 3, 20, 24, 30}},
		// A leaver with a greater identifier than the joiners stays in the list.
		{great, []int{50, 60, 1000}, []int{50, 60, 1000}},
		{great, []int{50, 60, 70, 1000}, []int{50, 60, 1000}},
		{great, []int{7, 50, 60, 70, 80, 90, 1000}, []int{7, 50, 60, 70, 1000}},
		// Without a majority of survivors nobody is left out, and nothing is proposed.
		{sixteen, span(1, 8), nil},
		{sixteen, append(span(1, 8), 30), nil},
		{sixteen, append(span(1, 8), span(30, 40)...), nil},
		{one, []int{7}, []int{7}},
		// No view follows the last one: all joiners are left out, and the leavers cannot leave.
		{last, []int{3}, nil},
		{last, []int{8}, nil},
		{last, []int{3, 8, 9}, nil},
		{late, []int{3, 8, 9}, []int{3, 8, 9}},
		// A list of more than 32 identifiers is no cut, so that Next does not return ErrLimit for it.
		{one, span(101, 115), span(101, 115)},
		{one, span(101, 116), span(101, 115)},
		{one, span(101, 132), span(101, 115)},
		{one, span(101, 133), nil},
		{one, span(101, 1000), nil},
		{sixteen, append([]int{3}, span(101, 131)...), []int{3, 101}},
		{sixteen, append([]int{3}, span(101, 132)...), nil},
	} {
		var tallies []counts
		for _, subject := range c.subjects {
			tallies = append(tallies, counts{subject, 5, 0})
		}
		checkAll(t, c.v, full(c.v, c.subjects...), tallies, nil, c.subjects, c.proposal)
	}
}

// TestDelayedLimits has lists that are too long in part: who is unstable delays them, and who is below the watermarks has no part in them.
func TestDelayedLimits(t *testing.T) {
	v := api.View{Number: 7, Members: span(1, 15)}
	l := append(full(v, 30, 40), set(v, report{50, "3"})...)
	checkAll(t, v, l, []counts{{30, 5, 0}, {40, 5, 0}, {50, 1, 0}}, nil, []int{30, 40}, []int{30})
	l = append(full(v, 30, 40), set(v, report{50, "34"})...)
	checkAll(t, v, l, []counts{{30, 5, 0}, {40, 5, 0}, {50, 2, 0}}, []int{50}, []int{30, 40}, nil)
}

// model computes what chapter 07 says from the observers of some sorted subjects, without package view.
type model struct {
	v         api.View
	subjects  []int
	observers map[int][]int
}

func newModel(v api.View, subjects []int) model {
	m := model{v, subjects, map[int][]int{}}
	for _, subject := range subjects {
		m.observers[subject] = overlay.Observers(v.Members, subject)
	}
	return m
}

func (m model) check(t *testing.T, l []api.Alert) {
	t.Helper()
	came, explicit := map[[2]int]bool{}, map[int]int{}
	for _, a := range l {
		came[[2]int{a.Subject, a.Ring}] = true
		explicit[a.Subject]++
	}
	var tallies []counts
	var unstable, stable, joiners []int
	left := len(m.v.Members)
	for _, subject := range m.subjects {
		if explicit[subject] == 0 {
			continue
		}
		implicit := 0
		for ring, observer := range m.observers[subject] {
			if explicit[subject] > 1 && explicit[observer] > 1 && !came[[2]int{subject, ring}] {
				implicit++
			}
		}
		tallies = append(tallies, counts{subject, explicit[subject], implicit})
		isMember := slices.Contains(m.v.Members, subject)
		switch {
		case explicit[subject] > 1 && explicit[subject]+implicit < 4:
			unstable = append(unstable, subject)
		case explicit[subject] > 1 && isMember:
			stable = append(stable, subject)
			left--
		case explicit[subject] > 1:
			stable = append(stable, subject)
			joiners = append(joiners, subject)
		}
	}
	proposal := slices.Clone(stable)
	if room := 16 - left; len(joiners) > room {
		proposal = slices.DeleteFunc(proposal, func(id int) bool { return slices.Contains(joiners[room:], id) })
	}
	if len(unstable) > 0 || 2*left <= len(m.v.Members) || len(stable) > 32 || m.v.Number == api.MaxNumber {
		proposal = nil
	}
	checkAll(t, m.v, l, tallies, unstable, stable, proposal)
}

// chosen returns the alerts whose bits are set.
func chosen(all []api.Alert, bits int) []api.Alert {
	var l []api.Alert
	for i, a := range all {
		if bits>>i&1 == 1 {
			l = append(l, a)
		}
	}
	return l
}

// TestAllSets compares the functions with the model for all sets of alerts about three subjects, or for every third one of them.
func TestAllSets(t *testing.T) {
	for _, c := range []struct {
		v        api.View
		subjects []int
		step     int
	}{
		{five(), []int{2, 40, 1000}, 1}, {five(), []int{2, 4, 1000}, 3}, {api.View{Members: span(1, 3)}, []int{1, 2, 4}, 3}, {api.View{Number: 7, Members: span(1, 16)}, []int{9, 30, 40}, 3},
	} {
		m, all := newModel(c.v, c.subjects), full(c.v, c.subjects...)
		for bits := 0; bits < 1<<15 && !t.Failed(); bits += c.step {
			m.check(t, chosen(all, bits))
		}
	}
}

// TestManySubjects compares the functions with the model for sets of alerts about any members and some joiners.
func TestManySubjects(t *testing.T) {
	random := rand.New(rand.NewSource(7))
	for _, v := range []api.View{
		five(), {Members: []int{1, 1000}}, {Number: api.MaxNumber, Members: span(4, 9)}, {Number: 1 << 33, Members: []int{17, 33, 404, 405, 700, 999}}, {Number: 5, Members: span(1, 16)}, {Number: 5, Members: span(981, 994)},
	} {
		subjects := append(slices.Clone(v.Members), 3, 18, 43, 100, 500, 980, 995, 1000)
		slices.Sort(subjects)
		subjects = slices.Compact(subjects)
		m := newModel(v, subjects)
		all := full(v, subjects...)
		for range 1500 {
			// What share of the alerts comes differs from subject to subject, so that some have none and some have all.
			shares := map[int]int{}
			for _, subject := range subjects {
				shares[subject] = []int{0, 0, 20, 60, 100, 100}[random.Intn(6)]
			}
			var l []api.Alert
			for _, a := range all {
				if random.Intn(100) < shares[a.Subject] {
					l = append(l, a)
				}
			}
			m.check(t, l)
		}
	}
}

// TestFewAlerts removes the alerts about subjects that only one came about, and adds such: neither changes what is stable, unstable and proposed.
func TestFewAlerts(t *testing.T) {
	v := five()
	all, singles := full(v, 2, 40, 500), set(v, report{4, "0"}, report{5, "3"}, report{7, "4"}, report{9, "1"}, report{1000, "2"}, report{999, "2"})
	for bits := 0; bits < 1<<15; bits += 11 {
		l := chosen(all, bits)
		more := l
		for _, a := range singles {
			more, _, _ = alerts.Add(v, more, a)
		}
		fewer := slices.DeleteFunc(slices.Clone(l), func(a api.Alert) bool { return alerts.Count(l, a.Subject) < api.Low })
		proposal, ok := cut.Propose(v, l)
		for _, other := range [][]api.Alert{more, fewer} {
			got, same := cut.Propose(v, other)
			if !slices.Equal(got, proposal) || same != ok {
				t.Fatalf("P7.4: Propose(%v) = %v, %v, but Propose(%v) = %v, %v", l, proposal, ok, other, got, same)
			}
			if !slices.Equal(cut.Stable(v, other), cut.Stable(v, l)) || !slices.Equal(cut.Unstable(v, other), cut.Unstable(v, l)) {
				t.Fatalf("P7.4: the suspects of %v are other ones than those of %v", other, l)
			}
		}
	}
}

// TestWholeSubjects gives all alerts of some subjects and no others: exactly these are proposed if they are an applicable cut.
func TestWholeSubjects(t *testing.T) {
	for _, v := range []api.View{five(), {Members: span(1, 3)}, {Number: 3, Members: []int{7, 500}}, {Number: 9, Members: append(span(20, 33), 1000)}} {
		candidates := []int{1, 2, 4, 5, 7, 9, 21, 40, 500, 1000}
		for bits := range 1 << len(candidates) {
			var subjects []int
			for i, id := range candidates {
				if bits>>i&1 == 1 {
					subjects = append(subjects, id)
				}
			}
			l := full(v, subjects...)
			proposal, ok := cut.Propose(v, l)
			_, err := view.Next(v, subjects)
			if err == api.OK && (!ok || !slices.Equal(proposal, subjects)) {
				t.Errorf("P7.4: all alerts about %v in %v propose %v, %v", subjects, v, proposal, ok)
			}
			if (err == api.ErrMajority || err == api.ErrInvalid) && (ok || len(proposal) > 0) {
				t.Errorf("P7.4: all alerts about %v in %v propose %v, %v, although the error of Next is %d", subjects, v, proposal, ok, err)
			}
			if _, err := view.Next(v, proposal); ok && err != api.OK {
				t.Errorf("P7.3: the proposal %v is not applicable to %v", proposal, v)
			}
		}
	}
}

// TestAnyOrder lets the same alerts come in many orders, some of them twice.
func TestAnyOrder(t *testing.T) {
	random := rand.New(rand.NewSource(8))
	v := five()
	l := set(v, report{2, "02"}, report{4, "3"}, report{40, "1234"}, report{500, "01234"}, report{1000, "3"})
	for range 300 {
		order := append(slices.Clone(l), l[:4]...)
		random.Shuffle(len(order), func(i, j int) { order[i], order[j] = order[j], order[i] })
		var came []api.Alert
		for _, a := range order {
			next, _, err := alerts.Add(v, came, a)
			if err != api.OK {
				t.Fatalf("P6.2: Add(%v, %v): %d", came, a, err)
			}
			came = next
		}
		checkAll(t, v, came, []counts{{2, 2, 2}, {4, 1, 0}, {40, 4, 0}, {500, 5, 0}, {1000, 1, 0}}, nil, []int{2, 40, 500}, []int{2, 40, 500})
	}
}

// TestResults writes to all results of some calls, which must not change what later calls return, nor the arguments.
func TestResults(t *testing.T) {
	v, l := five(), set(five(), report{2, "02"}, report{7, "02"}, report{40, "1234"})
	for range 2 {
		checkAll(t, v, l, []counts{{2, 2, 2}, {7, 2, 1}, {40, 4, 0}}, []int{7}, []int{2, 40}, nil)
		checkAll(t, v, full(v, 2, 40), []counts{{2, 5, 0}, {40, 5, 0}}, nil, []int{2, 40}, []int{2, 40})
		clear(cut.Counts(v, l))
		clear(cut.Unstable(v, l))
		clear(cut.Stable(v, l))
		proposal, _ := cut.Propose(v, full(v, 2, 40))
		clear(proposal)
	}
}
