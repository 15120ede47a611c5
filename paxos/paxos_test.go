package paxos_test

import (
	"math"
	"slices"
	"testing"

	"actorgrid/api"
	"actorgrid/paxos"
)

const (
	least    = math.MinInt
	greatest = math.MaxInt
	topRank  = 1073741800 // the greatest usable rank
)

// usableRanks are ranks with an owner, ascending.
func usableRanks() []int {
	return []int{1025, 1031, 2024, 2049, 3000}
}

// span returns the identifiers from one to another one.
func span(from, to int) []int {
	var l []int
	for id := from; id <= to; id++ {
		l = append(l, id)
	}
	return l
}

// goodCuts are valid cuts; some of them begin alike.
func goodCuts() [][]int {
	return [][]int{{3}, {4}, {3, 4}, {1}, {1000}, span(1, 32), span(969, 1000)}
}

// badCuts are not valid in any view.
func badCuts() [][]int {
	return [][]int{nil, {}, {0}, {-1}, {least}, {greatest}, {1001}, {3, 3}, {4, 3}, {0, 3}, {3, 1001}, {3, 5, 4}, span(1, 33), span(1, 1000)}
}

func sameAcceptor(a, b api.Acceptor) bool {
	return a.Promised == b.Promised && a.Rank == b.Rank && slices.Equal(a.Cut, b.Cut)
}

func sameReport(a, b api.Report) bool {
	return a.Member == b.Member && a.Rank == b.Rank && slices.Equal(a.Cut, b.Cut)
}

// spoil changes a result, so that what shares its memory changes, too.
func spoil(l []int) {
	for i := range l {
		l[i] = -99
	}
	if cap(l) > len(l) {
		_ = append(l, -98)
	}
}

// inRoom returns a list with memory behind it that a careless append would write to.
func inRoom(l []int) []int {
	return append(slices.Clone(l), -7, -8)[:len(l)]
}

func TestRankOf(t *testing.T) {
	for _, c := range []struct{ attempt, member, want int }{
		{1, 7, 1031}, {1, 1, 1025}, {1, 1000, 2024}, {2, 1, 2049}, {2, 1000, 3048}, {977, 23, 1000471},
		{1048575, 1, 1073740801}, {1048575, 1000, topRank}, {1048574, 1000, 1073740776},
		{0, 1, 0}, {0, 1000, 0}, {-1, 1, 0}, {-1, 1000, 0}, {0, 0, 0}, {least, 1, 0}, {least, least, 0},
		{1048576, 1, 0}, {1048576, 1000, 0}, {1048577, 7, 0}, {greatest, 1, 0}, {greatest, greatest, 0},
		{1, 0, 0}, {1, -1, 0}, {2, -1000, 0}, {1, least, 0}, {1048575, 0, 0}, {1048576, -1, 0},
		{1, 1001, 0}, {1, 1023, 0}, {1, 1024, 0}, {1, 1025, 0}, {1, greatest, 0}, {1048575, 1001, 0}, {0, 1031, 0},
		// 1024 times these attempts is a small number modulo 2^64.
		{1 << 54, 5, 0}, {1<<54 + 1, 5, 0}, {-1<<54 + 1, 5, 0}, {3<<54 + 1, 5, 0},
	} {
		if got := paxos.RankOf(c.attempt, c.member); got != c.want {
			t.Errorf("P9.1: RankOf(%d, %d) = %d, not %d", c.attempt, c.member, got, c.want)
		}
	}
}

func TestOwner(t *testing.T) {
	for _, c := range []struct{ rank, want int }{
		{1031, 7}, {1025, 1}, {2024, 1000}, {2049, 1}, {2050, 2}, {3048, 1000}, {1000471, 23}, {1073740801, 1}, {topRank, 1000}, {topRank - 1, 999},
		// The rank is too small, although the remainder of most of these is an identifier.
		{1024, 0}, {1023, 0}, {1000, 0}, {7, 0}, {1, 0}, {0, 0}, {-1, 0}, {-7, 0}, {-1017, 0}, {-1031, 0}, {least, 0}, {least + 7, 0},
		// The remainder is no identifier.
		{2025, 0}, {2047, 0}, {2048, 0}, {3049, 0}, {3072, 0}, {1073740800, 0}, {topRank + 1, 0}, {api.MaxRank - 1, 0},
		// The rank is too great, although the remainder of most of these is an identifier.
		{api.MaxRank, 0}, {api.MaxRank + 1, 0}, {api.MaxRank + 7, 0}, {api.MaxRank + 1000, 0}, {1<<40 + 7, 0}, {greatest, 0}, {greatest - 1023 + 7, 0},
	} {
		if got := paxos.Owner(c.rank); got != c.want {
			t.Errorf("P9.1: Owner(%d) = %d, not %d", c.rank, got, c.want)
		}
	}
}

// TestRanks counts attempts and members along with the ranks of the first attempts and of the last ones.
func TestRanks(t *testing.T) {
	for _, from := range []int{0, 1, 2, 1000, 1<<19 - 1, 1048573} {
		rank := from * 1024
		for attempt := from; attempt < from+4; attempt++ {
			for member := range 1024 {
				owner, back := member, rank
				if attempt < 1 || attempt > 1048575 || member < 1 || member > 1000 {
					owner, back = 0, 0
				}
				if got := paxos.Owner(rank); got != owner {
					t.Errorf("P9.1: Owner(%d) = %d, not %d", rank, got, owner)
				}
				if got := paxos.RankOf(attempt, member); got != back {
					t.Errorf("P9.1: RankOf(%d, %d) = %d, not %d", attempt, member, got, back)
				}
				rank++
			}
		}
	}
}

func TestFresh(t *testing.T) {
	a := paxos.Fresh()
	if a.Promised != 0 || a.Rank != -1 || len(a.Cut) != 0 {
		t.Errorf("P9.2: Fresh() = %v", a)
	}
	if !paxos.Valid(a) {
		t.Error("P9.2: the fresh acceptor is not valid")
	}
}

// validAcceptors have promised and accepted all that may come together.
func validAcceptors() []api.Acceptor {
	l := []api.Acceptor{{Rank: -1}, {Rank: -1, Cut: []int{}}}
	promises := append(usableRanks(), 1<<20+5, topRank)
	for _, cut := range goodCuts() {
		l = append(l, api.Acceptor{Cut: cut})
	}
	for i, promised := range promises {
		l = append(l, api.Acceptor{Promised: promised, Rank: -1})
		for _, rank := range append([]int{0}, promises[:i+1]...) {
			for _, cut := range goodCuts() {
				l = append(l, api.Acceptor{Promised: promised, Rank: rank, Cut: cut})
			}
		}
	}
	return l
}

// badAcceptors are not valid: for their promise, for a rank that nothing is accepted at, for a rank above the promise, or for their cut.
func badAcceptors() []api.Acceptor {
	cut := []int{3}
	l := []api.Acceptor{{}}
	for _, promised := range []int{least, -1031, -1, 1, 7, 1000, 1024, 2025, 2047, 2048, topRank + 1, api.MaxRank - 1, api.MaxRank, api.MaxRank + 7, greatest} {
		l = append(l, api.Acceptor{Promised: promised, Rank: -1}, api.Acceptor{Promised: promised, Cut: cut}, api.Acceptor{Promised: promised, Rank: promised, Cut: cut})
	}
	for _, rank := range []int{least, -1031, -2, 1, 7, 1000, 1024, 2025, 2047, 2048} {
		l = append(l, api.Acceptor{Promised: 3000, Rank: rank}, api.Acceptor{Promised: 3000, Rank: rank, Cut: cut})
	}
	for _, above := range []api.Acceptor{{Rank: 1025}, {Rank: topRank}, {Promised: 1025, Rank: 1026}, {Promised: 1031, Rank: 2049}, {Promised: 2049, Rank: 2050}, {Promised: 3000, Rank: topRank}, {Promised: topRank, Rank: greatest}} {
		above.Cut = cut
		l = append(l, above)
	}
	for _, promised := range append(usableRanks(), 0, topRank) {
		for _, bad := range badCuts() {
			l = append(l, api.Acceptor{Promised: promised, Cut: bad}, api.Acceptor{Promised: max(promised, 1025), Rank: 1025, Cut: bad})
		}
		for _, some := range append(badCuts()[2:], goodCuts()...) {
			l = append(l, api.Acceptor{Promised: promised, Rank: -1, Cut: some})
		}
	}
	return l
}

func TestValid(t *testing.T) {
	for _, a := range validAcceptors() {
		if !paxos.Valid(a) {
			t.Errorf("P9.2: the acceptor %v is not valid", a)
		}
	}
	for _, a := range badAcceptors() {
		if paxos.Valid(a) {
			t.Errorf("P9.2: the acceptor %v is valid", a)
		}
	}
}

// checkVote, checkPrepare and checkAccept make a step and check that its arguments stay as they are, also if the results are changed.
func checkVote(t *testing.T, a api.Acceptor, cut []int, want api.Acceptor, wantOK bool) {
	t.Helper()
	given, proposal := api.Acceptor{Promised: a.Promised, Rank: a.Rank, Cut: inRoom(a.Cut)}, inRoom(cut)
	got, ok := paxos.OnVote(given, proposal)
	if !sameAcceptor(got, want) || ok != wantOK {
		t.Errorf("P9.2: OnVote(%v, %v) = %v, %v, not %v, %v", a, cut, got, ok, want, wantOK)
	}
	spoil(got.Cut)
	checkKept(t, "OnVote", given.Cut, a.Cut, proposal, cut)
}

func checkPrepare(t *testing.T, a api.Acceptor, rank int, want api.Acceptor, wantReport api.Report, wantOK bool) {
	t.Helper()
	given := api.Acceptor{Promised: a.Promised, Rank: a.Rank, Cut: inRoom(a.Cut)}
	got, report, ok := paxos.OnPrepare(given, rank)
	if !sameAcceptor(got, want) || ok != wantOK {
		t.Errorf("P9.2: OnPrepare(%v, %d) = %v, %v, not %v, %v", a, rank, got, ok, want, wantOK)
	}
	spoil(got.Cut)
	if !sameReport(report, wantReport) {
		t.Errorf("P9.2: OnPrepare(%v, %d) reports %v, not %v", a, rank, report, wantReport)
	}
	spoil(report.Cut)
	checkKept(t, "OnPrepare", given.Cut, a.Cut, nil, nil)
}

func checkAccept(t *testing.T, a api.Acceptor, rank int, cut []int, want api.Acceptor, wantOK bool) {
	t.Helper()
	given, proposal := api.Acceptor{Promised: a.Promised, Rank: a.Rank, Cut: inRoom(a.Cut)}, inRoom(cut)
	got, ok := paxos.OnAccept(given, rank, proposal)
	if !sameAcceptor(got, want) || ok != wantOK {
		t.Errorf("P9.2: OnAccept(%v, %d, %v) = %v, %v, not %v, %v", a, rank, cut, got, ok, want, wantOK)
	}
	spoil(got.Cut)
	checkKept(t, "OnAccept", given.Cut, a.Cut, proposal, cut)
}

func checkKept(t *testing.T, call string, cut, wantCut, proposal, wantProposal []int) {
	t.Helper()
	room := []int{-7, -8}
	if !slices.Equal(cut[:len(cut)+2], slices.Concat(wantCut, room)) {
		t.Errorf("P9.2: %s changes the acceptor's cut %v", call, wantCut)
	}
	if proposal != nil && !slices.Equal(proposal[:len(proposal)+2], slices.Concat(wantProposal, room)) {
		t.Errorf("P9.2: %s changes the cut %v", call, wantProposal)
	}
}

func TestOnVote(t *testing.T) {
	for _, cut := range goodCuts() {
		checkVote(t, paxos.Fresh(), cut, api.Acceptor{Cut: cut}, true)
	}
	for _, cut := range badCuts() {
		checkVote(t, paxos.Fresh(), cut, paxos.Fresh(), false)
	}
	for _, a := range validAcceptors() {
		if a.Promised == 0 && a.Rank == -1 {
			continue
		}
		for _, cut := range slices.Concat(goodCuts(), badCuts(), [][]int{a.Cut}) {
			checkVote(t, a, cut, a, false)
		}
	}
}

func TestOnPrepare(t *testing.T) {
	one := []int{3}
	for _, c := range []struct {
		a    api.Acceptor
		rank int
		ok   bool
	}{
		{api.Acceptor{Rank: -1}, 1025, true},
		{api.Acceptor{Rank: -1}, topRank, true},
		{api.Acceptor{Cut: one}, 1031, true},
		{api.Acceptor{Promised: 1031, Rank: -1}, 1030, false},
		{api.Acceptor{Promised: 1031, Rank: -1}, 1031, true},
		{api.Acceptor{Promised: 1031, Rank: -1}, 1032, true},
		{api.Acceptor{Promised: 1031, Cut: one}, 1030, false},
		{api.Acceptor{Promised: 1031, Cut: one}, 1031, true},
		{api.Acceptor{Promised: 1031, Cut: one}, 2049, true},
		{api.Acceptor{Promised: 1031, Rank: 1031, Cut: one}, 1025, false},
		{api.Acceptor{Promised: 1031, Rank: 1031, Cut: one}, 1031, true},
		{api.Acceptor{Promised: 1031, Rank: 1031, Cut: one}, 1032, true},
		// It is the promise that counts, not the rank of what was accepted.
		{api.Acceptor{Promised: 2049, Rank: 1031, Cut: one}, 1031, false},
		{api.Acceptor{Promised: 2049, Rank: 1031, Cut: one}, 1032, false},
		{api.Acceptor{Promised: 2049, Rank: 1031, Cut: one}, 2024, false},
		{api.Acceptor{Promised: 2049, Rank: 1031, Cut: one}, 2049, true},
		{api.Acceptor{Promised: topRank, Rank: topRank, Cut: one}, topRank, true},
		{api.Acceptor{Promised: topRank, Rank: topRank, Cut: one}, topRank - 1, false},
	} {
		want, report := c.a, api.Report{}
		if c.ok {
			want.Promised = c.rank
			report = api.Report{Rank: c.a.Rank, Cut: c.a.Cut}
		}
		checkPrepare(t, c.a, c.rank, want, report, c.ok)
	}
}

// unusable are numbers that are no usable ranks.
func unusable() []int {
	return []int{least, -1031, -1, 0, 1, 7, 1000, 1024, 2025, 2047, 2048, 3049, topRank + 1, api.MaxRank - 1, api.MaxRank, api.MaxRank + 7, greatest}
}

// TestPrepareAll asks all valid acceptors for promises at all ranks, and at what is no rank.
func TestPrepareAll(t *testing.T) {
	for _, a := range validAcceptors() {
		for _, rank := range unusable() {
			checkPrepare(t, a, rank, a, api.Report{}, false)
		}
		for _, rank := range append(usableRanks(), 1026, 2050, topRank) {
			if rank < a.Promised {
				checkPrepare(t, a, rank, a, api.Report{}, false)
				continue
			}
			want := api.Acceptor{Promised: rank, Rank: a.Rank, Cut: a.Cut}
			checkPrepare(t, a, rank, want, api.Report{Rank: a.Rank, Cut: a.Cut}, true)
		}
	}
}

func TestOnAccept(t *testing.T) {
	one, two := []int{3}, []int{3, 4}
	for _, c := range []struct {
		a    api.Acceptor
		rank int
		cut  []int
		ok   bool
	}{
		{api.Acceptor{Rank: -1}, 1025, one, true},
		{api.Acceptor{Rank: -1}, topRank, two, true},
		{api.Acceptor{Cut: one}, 1031, one, true},
		{api.Acceptor{Cut: one}, 1031, two, true},
		{api.Acceptor{Promised: 1031, Rank: -1}, 1030, one, false},
		{api.Acceptor{Promised: 1031, Rank: -1}, 1031, one, true},
		{api.Acceptor{Promised: 1031, Rank: -1}, 1032, one, true},
		{api.Acceptor{Promised: 1031, Cut: one}, 1030, one, false},
		{api.Acceptor{Promised: 1031, Cut: one}, 1031, two, true},
		// The same cut and another one at the rank that it accepted at.
		{api.Acceptor{Promised: 1031, Rank: 1031, Cut: one}, 1031, one, true},
		{api.Acceptor{Promised: 1031, Rank: 1031, Cut: one}, 1031, two, false},
		{api.Acceptor{Promised: 1031, Rank: 1031, Cut: two}, 1031, one, false},
		{api.Acceptor{Promised: 1031, Rank: 1031, Cut: one}, 1030, one, false},
		{api.Acceptor{Promised: 1031, Rank: 1031, Cut: one}, 1032, two, true},
		// A later promise forbids the rank, also with the same cut.
		{api.Acceptor{Promised: 2049, Rank: 1031, Cut: one}, 1031, one, false},
		{api.Acceptor{Promised: 2049, Rank: 1031, Cut: one}, 2024, one, false},
		{api.Acceptor{Promised: 2049, Rank: 1031, Cut: one}, 2049, two, true},
		{api.Acceptor{Promised: topRank, Rank: topRank, Cut: one}, topRank, one, true},
		{api.Acceptor{Promised: topRank, Rank: topRank, Cut: one}, topRank, two, false},
	} {
		want := c.a
		if c.ok {
			want = api.Acceptor{Promised: c.rank, Rank: c.rank, Cut: c.cut}
		}
		checkAccept(t, c.a, c.rank, c.cut, want, c.ok)
	}
}

// TestAcceptAll asks all valid acceptors to accept all cuts at all ranks, and what is no cut and no rank.
func TestAcceptAll(t *testing.T) {
	for _, a := range validAcceptors() {
		for _, rank := range unusable() {
			checkAccept(t, a, rank, []int{3}, a, false)
			checkAccept(t, a, rank, a.Cut, a, false)
		}
		for _, rank := range append(usableRanks(), 1026, 2050, topRank) {
			for _, cut := range badCuts() {
				checkAccept(t, a, rank, cut, a, false)
			}
			for _, cut := range goodCuts() {
				if rank < a.Promised || rank == a.Rank && !slices.Equal(cut, a.Cut) {
					checkAccept(t, a, rank, cut, a, false)
				} else {
					checkAccept(t, a, rank, cut, api.Acceptor{Promised: rank, Rank: rank, Cut: cut}, true)
				}
			}
		}
	}
}

// TestBadAcceptors has acceptors that are not valid: nothing is returned, not even the acceptor.
func TestBadAcceptors(t *testing.T) {
	for _, a := range badAcceptors() {
		for _, cut := range [][]int{nil, {3}, {0}, a.Cut} {
			checkVote(t, a, cut, api.Acceptor{}, false)
			for _, rank := range []int{-1, 0, 1031, topRank, a.Rank, a.Promised, greatest} {
				checkAccept(t, a, rank, cut, api.Acceptor{}, false)
			}
		}
		for _, rank := range []int{-1, 0, 1031, topRank, a.Rank, a.Promised, greatest} {
			checkPrepare(t, a, rank, api.Acceptor{}, api.Report{}, false)
		}
	}
}

// TestLife leads one acceptor through a fast round, a promise, and two attempts.
func TestLife(t *testing.T) {
	a, ok := paxos.OnVote(paxos.Fresh(), []int{5})
	if !ok || !sameAcceptor(a, api.Acceptor{Cut: []int{5}}) {
		t.Fatalf("P9.2: after the vote: %v, %v", a, ok)
	}
	a, r, ok := paxos.OnPrepare(a, 1031)
	if !ok || !sameAcceptor(a, api.Acceptor{Promised: 1031, Cut: []int{5}}) || !sameReport(r, api.Report{Cut: []int{5}}) {
		t.Fatalf("P9.2: after the promise: %v, %v, %v", a, r, ok)
	}
	a, ok = paxos.OnAccept(a, 1031, []int{6})
	if !ok || !sameAcceptor(a, api.Acceptor{Promised: 1031, Rank: 1031, Cut: []int{6}}) {
		t.Fatalf("P9.2: after the attempt: %v, %v", a, ok)
	}
	a, ok = paxos.OnAccept(a, 1031, []int{5})
	if ok || !sameAcceptor(a, api.Acceptor{Promised: 1031, Rank: 1031, Cut: []int{6}}) {
		t.Fatalf("P9.2: after another cut at the same rank: %v, %v", a, ok)
	}
	a, r, ok = paxos.OnPrepare(a, 2050)
	if !ok || !sameAcceptor(a, api.Acceptor{Promised: 2050, Rank: 1031, Cut: []int{6}}) || !sameReport(r, api.Report{Rank: 1031, Cut: []int{6}}) {
		t.Fatalf("P9.2: after the second promise: %v, %v, %v", a, r, ok)
	}
	a, ok = paxos.OnAccept(a, 2051, []int{7})
	if !ok || !sameAcceptor(a, api.Acceptor{Promised: 2051, Rank: 2051, Cut: []int{7}}) {
		t.Fatalf("P9.2: after an attempt above the promise: %v, %v", a, ok)
	}
}
