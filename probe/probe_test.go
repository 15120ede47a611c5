package probe_test

import (
	"slices"
	"testing"

	"actorgrid/api"
	"actorgrid/overlay"
	"actorgrid/probe"
)

// span returns the identifiers from one to another one.
func span(from, to int) []int {
	var l []int
	for id := from; id <= to; id++ {
		l = append(l, id)
	}
	return l
}

// views are views of several sizes, with small and great numbers and identifiers.
func views() []api.View {
	vs := []api.View{
		{Members: []int{1}}, {Number: 5, Members: []int{api.MaxMemberID}}, {Number: api.MaxNumber, Members: []int{1, api.MaxMemberID}},
		{Number: 3, Members: []int{2, 5, 9, 40, 1000}}, {Number: 1 << 33, Members: []int{17, 33, 404, 405, 700, 999}},
	}
	for n := 1; n <= api.MaxMembers; n++ {
		vs = append(vs, api.View{Number: n - 1, Members: span(n, 2*n-1)})
	}
	return vs
}

func badViews() []api.View {
	return []api.View{
		{}, {Number: 1}, {Members: []int{}}, {Number: -1, Members: span(1, 3)}, {Number: least, Members: span(1, 3)},
		{Number: api.MaxNumber + 1, Members: span(1, 3)}, {Number: greatest, Members: span(1, 3)},
		{Members: span(0, 3)}, {Members: []int{-1, 1}}, {Members: []int{1, 1}}, {Members: []int{2, 1, 3}}, {Members: []int{1, 2, api.MaxMemberID + 1}},
		{Members: span(1, api.MaxMembers+1)}, {Members: span(1, api.MaxMemberID)},
	}
}

// start returns the detector of a member and ends the test if there is none.
func start(t *testing.T, v api.View, self int) api.Detector {
	t.Helper()
	d, err := probe.New(v, self)
	if err != api.OK {
		t.Fatalf("P5.2: New(%v, %d) returns the error %d", v, self, err)
	}
	return d
}

func same(a, b api.Detector) bool {
	return a.Self == b.Self && a.View.Number == b.View.Number && slices.Equal(a.View.Members, b.View.Members) && slices.Equal(a.Edges, b.Edges)
}

func zero(d api.Detector) bool {
	return same(d, api.Detector{})
}

// clone returns a detector that shares no memory with d.
func clone(d api.Detector) api.Detector {
	d.View.Members, d.Edges = slices.Clone(d.View.Members), slices.Clone(d.Edges)
	return d
}

func TestNew(t *testing.T) {
	few, five, full := []int{1, 2, 3}, []int{2, 5, 9, 40, 1000}, span(1, api.MaxMembers)
	for _, c := range []struct {
		v        api.View
		self     int
		subjects []int
	}{
		{api.View{Members: few}, 1, []int{3, 2, 3, 3, 3}}, {api.View{Number: 1, Members: few}, 2, []int{1, 3, 1, 1, 1}}, {api.View{Number: api.MaxNumber, Members: few}, 3, []int{2, 1, 2, 2, 2}},
		{api.View{Number: 7, Members: five}, 2, []int{1000, 1000, 9, 5, 1000}}, {api.View{Number: 7, Members: five}, 9, []int{2, 40, 40, 40, 5}}, {api.View{Number: 7, Members: five}, 1000, []int{5, 5, 5, 2, 9}},
		{api.View{Members: full}, 1, []int{16, 5, 3, 11, 6}}, {api.View{Members: full}, 8, []int{5, 10, 4, 2, 4}}, {api.View{Members: full}, 16, []int{15, 1, 15, 13, 13}},
		{api.View{Members: []int{4, 7}}, 4, []int{7, 7, 7, 7, 7}}, {api.View{Members: []int{4, 7}}, 7, []int{4, 4, 4, 4, 4}},
		{api.View{Members: []int{1}}, 1, nil}, {api.View{Number: 9, Members: []int{api.MaxMemberID}}, api.MaxMemberID, nil},
	} {
		want := api.Detector{Self: c.self, View: c.v}
		for ring, subject := range c.subjects {
			want.Edges = append(want.Edges, api.ProbeEdge{Ring: ring, Subject: subject})
		}
		if d, err := probe.New(c.v, c.self); err != api.OK || !same(d, want) {
			t.Errorf("P5.2: New(%v, %d) = %v, %d, not %v", c.v, c.self, d, err, want)
		}
	}
}

func TestNewOfAllMembers(t *testing.T) {
	for _, v := range views() {
		for _, self := range v.Members {
			d := start(t, v, self)
			subjects := overlay.Subjects(v.Members, self)
			if d.Self != self || d.View.Number != v.Number || !slices.Equal(d.View.Members, v.Members) || len(d.Edges) != len(subjects) {
				t.Fatalf("P5.2: New(%v, %d) = %v", v, self, d)
			}
			for i, edge := range d.Edges {
				if edge != (api.ProbeEdge{Ring: i, Subject: subjects[i]}) {
					t.Errorf("P5.2: New(%v, %d) has the edge %v at %d", v, self, edge, i)
				}
			}
			if !probe.Valid(d) {
				t.Errorf("P5.2: New(%v, %d) is not valid", v, self)
			}
		}
	}
}

func TestNewRefuses(t *testing.T) {
	check := func(v api.View, self int) {
		t.Helper()
		if d, err := probe.New(v, self); err != api.ErrInvalid || !zero(d) {
			t.Errorf("P5.2: New(%v, %d) = %v, %d", v, self, d, err)
		}
	}
	for _, v := range badViews() {
		for _, self := range []int{1, 2, 3, 0, -1, api.MaxMemberID + 1} {
			check(v, self)
		}
	}
	for _, v := range views() {
		for _, self := range []int{0, -1, least, greatest, api.MaxMemberID + 1, api.MaxMemberID - 5, 50, 500, 998} {
			check(v, self)
		}
	}
	check(api.View{Members: []int{1, 3}}, 2)
	check(api.View{Members: []int{2}}, 1)
}

// TestValid accepts whatever the edges remember, as long as their windows are valid.
func TestValid(t *testing.T) {
	for _, v := range views() {
		d := start(t, v, v.Members[0])
		for i, w := range validWindows() {
			for j := range d.Edges {
				d.Edges[j].Heard, d.Edges[j].Reported = (i+j)%2 == 0, (i+j)%3 == 0
				d.Edges[j].Window = w
			}
			if !probe.Valid(d) {
				t.Errorf("P5.2: %v is not valid", d)
			}
		}
	}
	if d := (api.Detector{Self: 1, View: api.View{Members: []int{1}}, Edges: []api.ProbeEdge{}}); !probe.Valid(d) {
		t.Errorf("P5.2: the detector %v of the only member is not valid", d)
	}
}

// badDetectors are detectors of members with one thing changed.
func badDetectors(t *testing.T) []api.Detector {
	t.Helper()
	ds := []api.Detector{{}, {Self: 1}, {View: api.View{Members: []int{1}}}, {Self: 1, View: api.View{Members: []int{1}}, Edges: []api.ProbeEdge{{}}}, {Self: 1, View: api.View{Members: []int{1}}, Edges: []api.ProbeEdge{{Subject: 1}}}}
	for _, v := range []api.View{{Members: span(1, 2)}, {Number: 6, Members: span(1, 3)}, {Number: 3, Members: []int{2, 5, 9, 40, 1000}}, {Members: span(1, api.MaxMembers)}} {
		self := v.Members[1]
		change := func(f func(d *api.Detector)) {
			d := clone(start(t, v, self))
			f(&d)
			ds = append(ds, d)
		}
		for _, bad := range badViews() {
			change(func(d *api.Detector) { d.View = bad })
		}
		for _, id := range []int{0, -1, least, greatest, v.Members[0], api.MaxMemberID + 1, 77} {
			change(func(d *api.Detector) { d.Self = id })
		}
		change(func(d *api.Detector) { d.View = api.View{Members: []int{self}} })
		change(func(d *api.Detector) { d.View.Members = []int{self, 999} })
		change(func(d *api.Detector) { d.Edges = nil })
		change(func(d *api.Detector) { d.Edges = d.Edges[1:] })
		change(func(d *api.Detector) { d.Edges = d.Edges[:4] })
		change(func(d *api.Detector) { d.Edges = append(d.Edges, d.Edges[4]) })
		change(func(d *api.Detector) { d.Edges = append(d.Edges, api.ProbeEdge{}) })
		change(func(d *api.Detector) { slices.Reverse(d.Edges) })
		for i := range api.Rings {
			for _, n := range []int{-1, 1, greatest - 10} {
				change(func(d *api.Detector) { d.Edges[i].Ring += n })
				change(func(d *api.Detector) { d.Edges[i].Subject += n })
			}
			change(func(d *api.Detector) { d.Edges[i].Subject = self })
			change(func(d *api.Detector) { d.Edges[i].Window.Count = -1 })
			change(func(d *api.Detector) { d.Edges[i].Window.Bits = 1 })
			change(func(d *api.Detector) { d.Edges[i].Window = api.ProbeWindow{Bits: 1024, Count: 10} })
			change(func(d *api.Detector) { d.Edges[i].Window = api.ProbeWindow{Count: 11} })
		}
	}
	return ds
}

func TestInvalidDetectors(t *testing.T) {
	for _, d := range badDetectors(t) {
		if probe.Valid(d) {
			t.Errorf("P5.2: %v is valid", d)
		}
		for _, from := range []int{0, 1, 2, 3, greatest} {
			if got := probe.Heard(d, from); !zero(got) {
				t.Errorf("P5.3: Heard(%v, %d) = %v", d, from, got)
			}
		}
		if got, alerts := probe.Tick(d); !zero(got) || len(alerts) != 0 {
			t.Errorf("P5.3: Tick(%v) = %v, %v", d, got, alerts)
		}
	}
}

// TestHeard lets the five members talk one by one to each other: all edges at the speaker are marked, also those that are marked already, and nothing else changes.
func TestHeard(t *testing.T) {
	members := []int{2, 5, 9, 40, 1000}
	for _, self := range members {
		for marked := range 1 << api.Rings {
			d := start(t, api.View{Number: 4, Members: members}, self)
			for i := range d.Edges {
				d.Edges[i].Heard, d.Edges[i].Reported = marked>>i%2 == 1, i == 2
				d.Edges[i].Window = api.ProbeWindow{Bits: uint32(i + 3), Count: 6 + i}
			}
			for _, from := range append([]int{0, -1, 1, 3, least, greatest, 77, 1001}, members...) {
				want := clone(d)
				for i := range want.Edges {
					if want.Edges[i].Subject == from {
						want.Edges[i].Heard = true
					}
				}
				if got := probe.Heard(d, from); !same(got, want) {
					t.Errorf("P5.3: Heard(%v, %d) = %v, not %v", d, from, got, want)
				}
			}
		}
	}
	if got, d := probe.Heard(start(t, api.View{Members: []int{7}}, 7), 7), start(t, api.View{Members: []int{7}}, 7); !same(got, d) {
		t.Errorf("P5.3: the only member hears itself: %v", got)
	}
}

func TestHeardOnSeveralRings(t *testing.T) {
	d := start(t, api.View{Members: []int{2, 5, 9, 40, 1000}}, 9)
	d = probe.Heard(d, 40)
	for i, want := range []bool{false, true, true, true, false} {
		if d.Edges[i].Heard != want {
			t.Errorf("P5.3: after a word from 40, edge %d of 9 is %v", i, d.Edges[i])
		}
	}
	d = probe.Heard(probe.Heard(d, 5), 1000)
	for i, want := range []bool{false, true, true, true, true} {
		if d.Edges[i].Heard != want {
			t.Errorf("P5.3: after words from 40, 5 and 1000, edge %d of 9 is %v", i, d.Edges[i])
		}
	}
}

func TestTick(t *testing.T) {
	full, failing, calm := api.ProbeWindow{Bits: 7, Count: 10}, api.ProbeWindow{Bits: 14, Count: 10}, api.ProbeWindow{Bits: 1 + 2 + 512, Count: 10}
	d := start(t, api.View{Number: 12, Members: []int{2, 5, 9, 40, 1000}}, 9)
	d.Edges[0].Window = full                                                         // fails a fourth time
	d.Edges[1].Window, d.Edges[1].Heard = full, true                                 // is heard
	d.Edges[2].Window, d.Edges[2].Reported = failing, true                           // is reported already
	d.Edges[3].Window = calm                                                         // forgets a failure when it has another one
	d.Edges[4].Window, d.Edges[4].Heard = api.ProbeWindow{Bits: 15, Count: 10}, true // fails although it is heard now
	want := clone(d)
	want.Edges[0] = api.ProbeEdge{Ring: 0, Subject: 2, Reported: true, Window: api.ProbeWindow{Bits: 15, Count: 10}}
	want.Edges[1] = api.ProbeEdge{Ring: 1, Subject: 40, Window: api.ProbeWindow{Bits: 14, Count: 10}}
	want.Edges[2] = api.ProbeEdge{Ring: 2, Subject: 40, Reported: true, Window: api.ProbeWindow{Bits: 29, Count: 10}}
	want.Edges[3] = api.ProbeEdge{Ring: 3, Subject: 40, Window: api.ProbeWindow{Bits: 7, Count: 10}}
	want.Edges[4] = api.ProbeEdge{Ring: 4, Subject: 5, Reported: true, Window: api.ProbeWindow{Bits: 30, Count: 10}}
	wanted := []api.Alert{{View: 12, Ring: 0, Observer: 9, Subject: 2}, {View: 12, Ring: 4, Observer: 9, Subject: 5}}
	got, alerts := probe.Tick(d)
	if !same(got, want) || !slices.Equal(alerts, wanted) {
		t.Errorf("P5.3: Tick(%v) = %v, %v, not %v, %v", d, got, alerts, want, wanted)
	}
	d = start(t, api.View{Members: []int{7}}, 7)
	if got, alerts := probe.Tick(d); !same(got, d) || len(alerts) != 0 {
		t.Errorf("P5.3: Tick of the only member = %v, %v", got, alerts)
	}
}

// history is what a test remembers of an edge: its failures, the latest one first.
type history struct {
	heard, reported bool
	failures        []bool
}

// tick adds an outcome to the history and reports whether there is an alert.
func (h *history) tick() bool {
	h.failures = append([]bool{!h.heard}, h.failures...)
	h.heard = false
	if h.reported || len(h.failures) < 10 || number(h.failures[:10]) < 4 {
		return false
	}
	h.reported = true
	return true
}

// edge returns the edge that has this history.
func (h *history) edge(ring, subject int) api.ProbeEdge {
	w := windowOf(h.failures[:min(len(h.failures), 10)])
	return api.ProbeEdge{Ring: ring, Subject: subject, Heard: h.heard, Reported: h.reported, Window: w}
}

// TestHistories compares long runs, in which the subjects are heard now and then, with the histories of their edges.
func TestHistories(t *testing.T) {
	alerts := 0
	for round, v := range views() {
		for place, self := range v.Members {
			alerts += checkRun(t, v, self, uint64(100*round+place))
		}
	}
	if alerts < 100 {
		t.Errorf("P5.3: only %d alerts in all runs", alerts)
	}
}

// checkRun makes 60 ticks and returns the number of alerts. Each member is heard with a probability of its own.
func checkRun(t *testing.T, v api.View, self int, seed uint64) int {
	t.Helper()
	subjects := overlay.Subjects(v.Members, self)
	histories := make([]history, len(subjects))
	d, sum := start(t, v, self), 0
	for tick := range 60 {
		for i, from := range v.Members {
			seed = seed*6364136223846793005 + 1442695040888963407
			if seed>>33%10 >= uint64(9-i%6) {
				continue
			}
			d = probe.Heard(d, from)
			for ring, subject := range subjects {
				histories[ring].heard = histories[ring].heard || subject == from
			}
		}
		checkTick(t, &d, v, self, histories, &sum)
		if t.Failed() {
			t.Fatalf("P5.3: tick %d of %d in %v goes wrong", tick, self, v)
		}
	}
	return sum
}

// checkTick makes one tick of a detector and of the histories of its edges.
func checkTick(t *testing.T, d *api.Detector, v api.View, self int, histories []history, sum *int) {
	t.Helper()
	subjects := overlay.Subjects(v.Members, self)
	before := api.Detector{Self: self, View: v}
	for ring := range histories {
		before.Edges = append(before.Edges, histories[ring].edge(ring, subjects[ring]))
	}
	if !same(*d, before) {
		t.Errorf("P5.3: the detector is %v before a tick, not %v", *d, before)
	}
	var wanted []api.Alert
	after := api.Detector{Self: self, View: v}
	for ring := range histories {
		if histories[ring].tick() {
			wanted = append(wanted, api.Alert{View: v.Number, Ring: ring, Observer: self, Subject: subjects[ring]})
		}
		after.Edges = append(after.Edges, histories[ring].edge(ring, subjects[ring]))
	}
	next, alerts := probe.Tick(*d)
	if !same(next, after) || !slices.Equal(alerts, wanted) {
		t.Errorf("P5.3: Tick(%v) = %v, %v, not %v, %v", *d, next, alerts, after, wanted)
	}
	if !probe.Valid(next) {
		t.Errorf("P5.2: %v is not valid", next)
	}
	*d = next
	*sum += len(alerts)
}

// run makes ticks, before each of which the given members are heard, and returns the alerts of each tick.
func run(d api.Detector, ticks int, speakers ...int) (api.Detector, [][]api.Alert) {
	var all [][]api.Alert
	for range ticks {
		for _, from := range speakers {
			d = probe.Heard(d, from)
		}
		var alerts []api.Alert
		d, alerts = probe.Tick(d)
		all = append(all, alerts)
	}
	return d, all
}

// without returns the members other than id.
func without(members []int, id int) []int {
	return slices.DeleteFunc(slices.Clone(members), func(other int) bool { return other == id })
}

// TestSilence lets one member be silent: its observers report it at the tenth tick on all rings on which they observe it, and never before or again.
func TestSilence(t *testing.T) {
	for _, v := range views() {
		for _, self := range v.Members {
			for _, silent := range without(v.Members, self) {
				var wanted []api.Alert
				for _, ring := range overlay.Shared(v.Members, self, silent) {
					wanted = append(wanted, api.Alert{View: v.Number, Ring: ring, Observer: self, Subject: silent})
				}
				_, all := run(start(t, v, self), 25, without(v.Members, silent)...)
				for i, alerts := range all {
					if i == 9 && !slices.Equal(alerts, wanted) || i != 9 && len(alerts) != 0 {
						t.Errorf("P5.4: tick %d of %d in %v returns %v while %d is silent", i+1, self, v, alerts, silent)
					}
				}
			}
		}
	}
}

// TestSilenceOfAll lets all members be silent.
func TestSilenceOfAll(t *testing.T) {
	d := start(t, api.View{Number: 8, Members: []int{2, 5, 9, 40, 1000}}, 9)
	wanted := []api.Alert{
		{View: 8, Ring: 0, Observer: 9, Subject: 2}, {View: 8, Ring: 1, Observer: 9, Subject: 40}, {View: 8, Ring: 2, Observer: 9, Subject: 40},
		{View: 8, Ring: 3, Observer: 9, Subject: 40}, {View: 8, Ring: 4, Observer: 9, Subject: 5},
	}
	for tick := 1; tick <= 50; tick++ {
		next, alerts := probe.Tick(d)
		if tick == 10 && !slices.Equal(alerts, wanted) || tick != 10 && len(alerts) != 0 {
			t.Errorf("P5.4: tick %d without a word returns %v", tick, alerts)
		}
		d = next
	}
}

// TestCalm lets all members be heard between any two ticks: whether they are heard ahead of the first one does not matter.
func TestCalm(t *testing.T) {
	for _, v := range views() {
		for _, self := range v.Members {
			quiet, first := probe.Tick(start(t, v, self))
			if len(first) != 0 {
				t.Errorf("P5.4: the first tick of %d in %v returns %v", self, v, first)
			}
			for _, d := range []api.Detector{start(t, v, self), quiet} {
				_, all := run(d, 25, v.Members...)
				if alerts := slices.Concat(all...); len(alerts) != 0 {
					t.Errorf("P5.4: %d in %v reports %v", self, v, alerts)
				}
			}
		}
	}
}

// TestOnce lets a subject be silent, be heard again, and be silent again after its window has been without a failure.
func TestOnce(t *testing.T) {
	v := api.View{Number: 2, Members: []int{1, 2, 3}}
	d, all := run(start(t, v, 1), 12, 2)
	wanted := []api.Alert{{View: 2, Ring: 0, Observer: 1, Subject: 3}, {View: 2, Ring: 2, Observer: 1, Subject: 3}, {View: 2, Ring: 3, Observer: 1, Subject: 3}, {View: 2, Ring: 4, Observer: 1, Subject: 3}}
	if !slices.Equal(slices.Concat(all...), wanted) {
		t.Errorf("P5.4: 1 reports %v", all)
	}
	for range 3 {
		d, all = run(d, 15, 2, 3)
		if len(slices.Concat(all...)) != 0 || d.Edges[0].Window.Bits != 0 || !d.Edges[0].Reported {
			t.Errorf("P5.4: after 15 words from 3, 1 reports %v and has the edges %v", all, d.Edges)
		}
		d, all = run(d, 15, 2)
		if len(slices.Concat(all...)) != 0 || !probe.Failing(d.Edges[0].Window) {
			t.Errorf("P5.4: 1 reports %v again and has the edges %v", all, d.Edges)
		}
	}
}

// TestFewFailures lets a subject miss three of ten ticks, in any places, for ever; a fourth one is reported.
func TestFewFailures(t *testing.T) {
	for w := range uint32(1 << api.Window) {
		missing := number(outcomes(api.ProbeWindow{Bits: w, Count: api.Window}))
		d, reported := start(t, api.View{Members: []int{4, 7}}, 4), 0
		for tick := range 40 {
			if w>>(tick%api.Window)%2 == 0 {
				d = probe.Heard(d, 7)
			}
			next, alerts := probe.Tick(d)
			reported += len(alerts)
			d = next
		}
		if missing >= api.Failures && reported != api.Rings || missing < api.Failures && reported != 0 {
			t.Errorf("P5.4: with %d of 10 words missing (%b), 4 returns %d alerts", missing, w, reported)
		}
	}
}

// TestMemory changes the results and looks whether the arguments or other results change with them.
func TestMemory(t *testing.T) {
	members := append(make([]int, 0, 20), 2, 5, 9, 40, 1000)
	v := api.View{Number: 3, Members: members}
	d := start(t, v, 9)
	for i := range d.Edges {
		d.Edges[i].Window = api.ProbeWindow{Bits: 7, Count: 10}
	}
	d.Edges = append(make([]api.ProbeEdge, 0, 20), d.Edges...)
	before := clone(d)
	heard := probe.Heard(d, 40)
	ticked, alerts := probe.Tick(d)
	again, others := probe.Tick(d)
	results := []api.Detector{start(t, v, 9), heard, probe.Heard(d, 77), ticked, again}
	for i, r := range results {
		_, _ = append(r.Edges, api.ProbeEdge{Ring: 77}), append(r.View.Members, 77)
		for j := range r.Edges {
			r.Edges[j].Ring = 100 * (i + 1)
		}
		for j := range r.View.Members {
			r.View.Members[j] = 100 * (i + 1)
		}
	}
	for i, r := range results {
		for j := range r.Edges {
			if r.Edges[j].Ring != 100*(i+1) || r.View.Members[j] != 100*(i+1) {
				t.Errorf("P5.3: result %d shares memory with another one", i)
			}
		}
	}
	if !same(d, before) || d.Edges[:6][5] != (api.ProbeEdge{}) || !slices.Equal(members[:6], []int{2, 5, 9, 40, 1000, 0}) {
		t.Errorf("P5.3: the detector or its view is changed: %v", d)
	}
	if len(alerts) != 5 || !slices.Equal(alerts, others) {
		t.Errorf("P5.3: two ticks of one detector return %v and %v", alerts, others)
	}
}
