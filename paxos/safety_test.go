package paxos_test

import (
	"fmt"
	"math/bits"
	"slices"
	"testing"

	"actorgrid/api"
	"actorgrid/paxos"
)

// attempt is what a coordinator knows and proposes at one rank.
type attempt struct {
	rank     int
	reports  []api.Report
	proposal []int
}

// run is a state of acceptors and coordinators that send each other messages; each message may be late or never come.
type run struct {
	view      api.View
	acceptors []api.Acceptor
	attempts  []attempt // ascending by rank
	// accepted has a set of acceptors, as bits, for each cut that was ever accepted, by rank: the fast round first, then the attempts.
	accepted []map[string]uint
}

// runOf returns the run of the members 1 to n, with attempts at the ranks, before its first message.
func runOf(n int, ranks ...int) run {
	r := run{view: viewOf(n), accepted: []map[string]uint{{}}}
	for range n {
		r.acceptors = append(r.acceptors, paxos.Fresh())
	}
	for _, rank := range ranks {
		r.attempts = append(r.attempts, attempt{rank: rank})
		r.accepted = append(r.accepted, map[string]uint{})
	}
	return r
}

func (r run) copied() run {
	next := run{view: r.view, acceptors: slices.Clone(r.acceptors), attempts: slices.Clone(r.attempts)}
	for _, m := range r.accepted {
		sets := map[string]uint{}
		for cut, set := range m {
			sets[cut] = set
		}
		next.accepted = append(next.accepted, sets)
	}
	return next
}

// vote, prepare, propose and accept return what follows one message or one choice, and whether it has an effect.
func (r run) vote(i int, cut []int) (run, bool) {
	a, ok := paxos.OnVote(r.acceptors[i], cut)
	if !ok {
		return r, false
	}
	next := r.copied()
	next.acceptors[i] = a
	next.accepted[0][fmt.Sprint(cut)] |= 1 << i
	return next, true
}

func (r run) prepare(i, k int) (run, bool) {
	a, report, ok := paxos.OnPrepare(r.acceptors[i], r.attempts[k].rank)
	if !ok {
		return r, false
	}
	report.Member = i + 1
	reports, ok := paxos.AddReport(r.view, r.attempts[k].reports, report)
	if !ok {
		return r, false
	}
	next := r.copied()
	next.acceptors[i], next.attempts[k].reports = a, reports
	return next, true
}

func (r run) propose(k int, own []int) (run, bool) {
	if len(r.attempts[k].proposal) > 0 {
		return r, false
	}
	cut, ok := paxos.Choose(r.view, r.attempts[k].reports, own)
	if !ok {
		return r, false
	}
	next := r.copied()
	next.attempts[k].proposal = cut
	return next, true
}

func (r run) accept(i, k int) (run, bool) {
	at := r.attempts[k]
	a, ok := paxos.OnAccept(r.acceptors[i], at.rank, at.proposal)
	if !ok || sameAcceptor(a, r.acceptors[i]) {
		return r, false
	}
	next := r.copied()
	next.acceptors[i] = a
	next.accepted[k+1][fmt.Sprint(at.proposal)] |= 1 << i
	return next, true
}

// chosen returns the cut that a fast quorum has accepted in the fast round (0), or a majority in one of the attempts; "" if there is none.
func (r run) chosen(round int) string {
	n := len(r.acceptors)
	needed := n/2 + 1
	if round == 0 {
		needed = n - (n-1)/4
	}
	for cut, set := range r.accepted[round] {
		if bits.OnesCount(set) >= needed {
			return cut
		}
	}
	return ""
}

// check reports whether a cut is chosen. All later proposals must be that cut, and so must what Choose returns for reports of any majority at a rank that is greater still.
func (r run) check(t *testing.T, rank int, majorities []uint, own []int) bool {
	t.Helper()
	cut := ""
	for round := range r.accepted {
		if got := r.chosen(round); got != "" && cut == "" {
			cut = got
		} else if got != "" && got != cut {
			t.Fatalf("P9.4: %v and %v are both chosen: %v", cut, got, r)
		}
		if cut == "" || round == len(r.attempts) {
			continue
		}
		if p := r.attempts[round].proposal; len(p) > 0 && fmt.Sprint(p) != cut {
			t.Fatalf("P9.4: %v is proposed after %v was chosen: %v", p, cut, r)
		}
	}
	if cut == "" {
		return false
	}
	for _, set := range majorities {
		var reports []api.Report
		for i, a := range r.acceptors {
			if set>>i&1 == 0 {
				continue
			}
			_, report, ok := paxos.OnPrepare(a, rank)
			report.Member = i + 1
			reports = append(reports, report)
			if !ok {
				t.Fatalf("P9.2: %v makes no promise of the rank %d", a, rank)
			}
		}
		if got, ok := paxos.Choose(r.view, reports, own); !ok || fmt.Sprint(got) != cut {
			t.Fatalf("P9.4: Choose(%v, %v) = %v, %v after %v was chosen", reports, own, got, ok, cut)
		}
	}
	return true
}

// majoritiesOf returns all sets of more than half of n acceptors.
func majoritiesOf(n int) []uint {
	var l []uint
	for set := range uint(1) << n {
		if 2*bits.OnesCount(set) > n {
			l = append(l, set)
		}
	}
	return l
}

// follow returns all states that follow one. All attempts have own cuts of their own.
func (r run) follow() []run {
	var l []run
	add := func(next run, ok bool) {
		if ok {
			l = append(l, next)
		}
	}
	for i := range r.acceptors {
		add(r.vote(i, []int{20}))
		add(r.vote(i, []int{21}))
		for k := range r.attempts {
			add(r.prepare(i, k))
			add(r.accept(i, k))
		}
	}
	for k := range r.attempts {
		add(r.propose(k, []int{20 + k}))
	}
	return l
}

// explore goes through all states that can be reached and returns how many there are, and in how many of them a cut is chosen.
func explore(t *testing.T, r run) (states, chosen int) {
	majorities := majoritiesOf(len(r.acceptors))
	seen := map[string]bool{fmt.Sprint(r): true}
	for waiting := []run{r}; len(waiting) > 0; states++ {
		at := waiting[len(waiting)-1]
		waiting = waiting[:len(waiting)-1]
		if at.check(t, topRank, majorities, []int{22}) && at.check(t, topRank, majorities, nil) {
			chosen++
		}
		for _, next := range at.follow() {
			if key := fmt.Sprint(next); !seen[key] {
				seen[key] = true
				waiting = append(waiting, next)
			}
		}
	}
	return states, chosen
}

// TestAllRuns goes through all runs of up to three members with a fast round and two attempts.
func TestAllRuns(t *testing.T) {
	for n := 1; n <= 3; n++ {
		states, chosen := explore(t, runOf(n, 1025, 1026))
		t.Logf("%d members: %d states, %d with a chosen cut", n, states, chosen)
		if chosen == 0 || chosen == states {
			t.Errorf("P9.4: in %d of %d states a cut is chosen", chosen, states)
		}
	}
}

// TestFastQuorums has all votes of up to seven members for two cuts or none: every majority finds what a fast quorum has voted for.
func TestFastQuorums(t *testing.T) {
	for n := 1; n <= 7; n++ {
		majorities, found, number := majoritiesOf(n), 0, 1
		for range n {
			number *= 3
		}
		for votes := range number {
			r := runOf(n)
			for i := range n {
				if choice := votes % 3; choice > 0 {
					r, _ = r.vote(i, []int{20 + choice})
				}
				votes /= 3
			}
			if r.check(t, 1025, majorities, []int{20}) {
				found++
			}
		}
		if found < 2 {
			t.Errorf("P9.4: %d fast quorums of %d members", found, n)
		}
	}
}

// random makes numbers below a bound; its value is a seed.
type random uint64

func (s *random) below(n int) int {
	*s = *s*6364136223846793005 + 1442695040888963407
	return int(uint64(*s) >> 33 % uint64(n))
}

// step lets something happen in a round or, as messages may be late, in the one before it. In the fast round about oneMind of ten voters are of one mind.
func (r run) step(s *random, round, oneMind int) (run, bool) {
	// Each of these can be applied to a view of that many members.
	cuts := [][]int{{1, 20}, {2, 20}}
	if len(r.acceptors) < 5 {
		cuts = [][]int{{20}, {20, 21}}
	}
	i := s.below(len(r.acceptors))
	round -= s.below(5) / 4
	if round <= 0 {
		choice := 0
		if s.below(10) >= oneMind {
			choice = 1
		}
		return r.vote(i, cuts[choice])
	}
	k := round - 1
	switch s.below(4) {
	case 0:
		return r.prepare(i, k)
	case 1:
		return r.propose(k, cuts[k%2])
	default:
		return r.accept(i, k)
	}
}

// someMajorities returns four random sets of more than half of n acceptors.
func someMajorities(s *random, n int) []uint {
	var sets []uint
	for range 4 {
		set := uint(s.below(1 << n))
		for 2*bits.OnesCount(set) <= n {
			set |= 1 << s.below(n)
		}
		sets = append(sets, set)
	}
	return sets
}

// TestLongRuns sends many messages in runs of up to 16 members with several attempts.
func TestLongRuns(t *testing.T) {
	s := random(3)
	chosen, byRound := 0, make([]int, 6)
	for number := range 1600 {
		n := 1 + number%api.MaxMembers
		r := runOf(n, 1025, 1026, 2049, 3072+n, topRank-1)
		// The rounds of some runs are too short for a choice.
		length, oneMind := n+s.below(12*n), s.below(14)
		found := false
		for step := range length * len(byRound) {
			next, ok := r.step(&s, step/length, oneMind)
			if !ok {
				continue
			}
			r = next
			found = r.check(t, topRank, someMajorities(&s, n), []int{3})
		}
		if found {
			chosen++
		}
		for round := range byRound {
			if r.chosen(round) != "" {
				byRound[round]++
			}
		}
	}
	t.Logf("%d runs with a chosen cut; by round: %d", chosen, byRound)
	if chosen < 500 || chosen > 1500 || slices.Min(byRound) < 100 {
		t.Errorf("P9.4: %d runs with a chosen cut; by round: %d", chosen, byRound)
	}
}
