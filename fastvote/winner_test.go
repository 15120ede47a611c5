package fastvote_test

import (
	"slices"
	"testing"

	"actorgrid/api"
	"actorgrid/fastvote"
)

// quorums are the fast quorums of 0 to api.MaxMembers members.
var quorums = []int{0, 1, 2, 3, 4, 4, 5, 6, 7, 7, 8, 9, 10, 10, 11, 12, 13}

// cutsFor returns three cuts that can be applied to the view of the members 1 to n; two of them begin alike.
func cutsFor(n int) [][]int {
	if n < 3 {
		return [][]int{{20}, {20, 21}, {21}}
	}
	return [][]int{{1}, {1, 20}, {2}}
}

// boxFor returns the box of the view of the members 1, 2 and so on, whose choices are cuts (1, 2 or 3) or none (0).
func boxFor(choices []int) (api.View, []api.Ballot) {
	v := api.View{Number: 5, Members: span(1, len(choices))}
	cuts := cutsFor(len(choices))
	var box []api.Ballot
	for i, choice := range choices {
		if choice > 0 {
			box = append(box, api.Ballot{Member: i + 1, Cut: slices.Clone(cuts[choice-1])})
		}
	}
	return v, box
}

// checkCount compares Winner and Undecidable with what they should return.
func checkCount(t *testing.T, v api.View, box []api.Ballot, winner []int, undecidable bool) {
	t.Helper()
	kept, members := copied(box), slices.Clone(v.Members)
	if got, ok := fastvote.Winner(v, box); !slices.Equal(got, winner) || ok != (len(winner) > 0) {
		t.Errorf("P8.2: Winner(%v, %v) = %v, %v, not %v", v, box, got, ok, winner)
	}
	if got := fastvote.Undecidable(v, box); got != undecidable {
		t.Errorf("P8.2: Undecidable(%v, %v) = %v", v, box, got)
	}
	if !equal(box, kept) || !slices.Equal(v.Members, members) {
		t.Errorf("P8.2: counting changes the box %v of %v to %v", kept, members, box)
	}
}

func TestVotes(t *testing.T) {
	for _, c := range []struct {
		box  []api.Ballot
		cut  []int
		want int
	}{
		{nil, nil, 0}, {nil, []int{3}, 0}, {[]api.Ballot{}, []int{}, 0},
		{boxOf([]int{3}, 1), []int{3}, 1}, {boxOf([]int{3}, 1), []int{4}, 0}, {boxOf([]int{3}, 1), nil, 0}, {boxOf([]int{3}, 1), []int{3, 4}, 0},
		{boxOf([]int{3, 4}, 1, 2), []int{3}, 0}, {boxOf([]int{3, 4}, 1, 2), []int{4}, 0}, {boxOf([]int{3, 4}, 1, 2), []int{4, 3}, 0}, {boxOf([]int{3, 4}, 1, 2), []int{3, 4}, 2},
		{join(boxOf([]int{3}, 1, 3, 5), boxOf([]int{4}, 2, 4)), []int{3}, 3},
		{join(boxOf([]int{3}, 1, 3, 5), boxOf([]int{4}, 2, 4)), []int{4}, 2},
		{join(boxOf([]int{3}, 1, 3, 5), boxOf([]int{4}, 2, 4)), []int{5}, 0},
		// A list that is not a valid box of any view is counted as well.
		{boxOf([]int{3}, 7, 7, -1, 0, 5000), []int{3}, 5},
		{boxOf([]int{9, 3, 3}, 2, 1), []int{9, 3, 3}, 2},
		{[]api.Ballot{{}, {Member: 1}, {Member: 2, Cut: []int{}}, {Member: 3, Cut: []int{0}}}, nil, 3},
		{[]api.Ballot{{}, {Member: 1}, {Member: 2, Cut: []int{}}, {Member: 3, Cut: []int{0}}}, []int{}, 3},
		{[]api.Ballot{{}, {Member: 1}, {Member: 2, Cut: []int{}}, {Member: 3, Cut: []int{0}}}, []int{0}, 1},
		{boxOf([]int{least, greatest}, span(1, 3000)...), []int{least, greatest}, 3000},
		{boxOf(span(1, 3000), 1, 2), span(1, 3000), 2},
	} {
		if got := fastvote.Votes(c.box, c.cut); got != c.want {
			t.Errorf("P8.2: Votes(%v, %v) = %d, not %d", c.box, c.cut, got, c.want)
		}
	}
}

func TestKnownBoxes(t *testing.T) {
	for _, c := range []struct {
		choices     []int
		winner      int
		undecidable bool
	}{
		{[]int{0}, 0, false}, {[]int{1}, 1, false},
		{[]int{0, 0}, 0, false}, {[]int{1, 0}, 0, false}, {[]int{1, 1}, 1, false}, {[]int{1, 2}, 0, true},
		{[]int{0, 2, 0}, 0, false}, {[]int{0, 2, 2}, 0, false}, {[]int{2, 2, 2}, 2, false}, {[]int{0, 2, 3}, 0, true}, {[]int{2, 2, 1}, 0, true},
		// Four members need four equal votes.
		{[]int{0, 0, 0, 0}, 0, false}, {[]int{1, 0, 0, 0}, 0, false}, {[]int{1, 0, 0, 2}, 0, true}, {[]int{3, 3, 3, 0}, 0, false}, {[]int{3, 3, 3, 3}, 3, false}, {[]int{3, 3, 3, 1}, 0, true},
		// Of five members four suffice, whichever they are.
		{[]int{1, 1, 1, 1, 0}, 1, false}, {[]int{0, 1, 1, 1, 1}, 1, false}, {[]int{2, 1, 1, 1, 1}, 1, false}, {[]int{1, 1, 2, 1, 1}, 1, false}, {[]int{1, 1, 1, 1, 3}, 1, false}, {[]int{1, 1, 1, 1, 1}, 1, false},
		{[]int{1, 1, 1, 0, 0}, 0, false}, {[]int{1, 1, 1, 2, 0}, 0, false}, {[]int{1, 1, 1, 2, 2}, 0, true}, {[]int{1, 1, 1, 2, 3}, 0, true}, {[]int{2, 2, 1, 1, 1}, 0, true},
		{[]int{1, 2, 0, 0, 0}, 0, false}, {[]int{1, 2, 3, 0, 0}, 0, true}, {[]int{1, 2, 1, 0, 0}, 0, false}, {[]int{1, 1, 2, 2, 0}, 0, true}, {[]int{2, 3, 3, 0, 0}, 0, false}, {[]int{2, 2, 3, 3, 0}, 0, true},
		// Nine members need seven equal votes: with three others out of the way no cut has that many.
		{[]int{1, 1, 2, 2, 2, 2, 2, 2, 2}, 2, false}, {[]int{1, 1, 2, 2, 2, 2, 2, 2, 0}, 0, false}, {[]int{1, 1, 1, 2, 2, 2, 2, 2, 2}, 0, true},
		{[]int{1, 2, 3, 0, 0, 0, 0, 0, 0}, 0, false}, {[]int{1, 1, 2, 2, 0, 0, 0, 0, 0}, 0, false}, {[]int{1, 1, 2, 2, 3, 0, 0, 0, 0}, 0, true},
	} {
		v, box := boxFor(c.choices)
		var winner []int
		if c.winner > 0 {
			winner = cutsFor(len(c.choices))[c.winner-1]
		}
		checkCount(t, v, box, winner, c.undecidable)
	}
}

// TestQuorums has for each number of members a fast quorum of equal votes and one fewer, ahead of, behind and between the other ones.
func TestQuorums(t *testing.T) {
	for n := 1; n <= api.MaxMembers; n++ {
		for shift := range n {
			for votes := range n + 1 {
				for _, other := range []int{0, 2} {
					choices := make([]int, n)
					for i := range n {
						choices[i] = other
					}
					for i := range votes {
						choices[(shift+i)%n] = 1
					}
					v, box := boxFor(choices)
					others := n - votes
					switch {
					case votes >= quorums[n]:
						checkCount(t, v, box, cutsFor(n)[0], false)
					case other == 0:
						checkCount(t, v, box, nil, false)
					case others >= quorums[n]:
						checkCount(t, v, box, cutsFor(n)[1], false)
					default:
						checkCount(t, v, box, nil, true)
					}
				}
			}
		}
	}
}

// TestUndecidable has for each number of members as few votes apart from the leading cut as stop it, and one fewer.
func TestUndecidable(t *testing.T) {
	for n := 3; n <= api.MaxMembers; n++ {
		spare := n - quorums[n]
		for votes := 1; votes < quorums[n]-1; votes++ {
			for apart := range min(spare+2, n-votes+1) {
				// Two other cuts share the votes apart; neither of them may lead.
				if (apart+1)/2 > votes {
					continue
				}
				choices := make([]int, n)
				for i := range votes {
					choices[n-1-i] = 1
				}
				for i := range apart {
					choices[i] = 2 + i%2
				}
				v, box := boxFor(choices)
				checkCount(t, v, box, nil, apart > spare)
			}
		}
	}
}

// TestBadArguments asks about boxes and views that are not valid; many of them have a fast quorum of equal votes, and many have none that is possible.
func TestBadArguments(t *testing.T) {
	for _, box := range badBoxes() {
		checkCount(t, five(), box, nil, false)
	}
	apart := join(boxOf([]int{40}, 2), boxOf([]int{7}, 5), boxOf([]int{9, 40}, 9))
	for _, v := range badViews() {
		for _, box := range append(goodBoxes(), apart, boxOf([]int{40}, 2, 5, 9, 40, 1000)) {
			checkCount(t, v, box, nil, false)
		}
	}
	checkCount(t, five(), apart, nil, true)
	checkCount(t, five(), boxOf([]int{40}, 2, 5, 9, 40, 1000), []int{40}, false)
	last := api.View{Number: api.MaxNumber, Members: five().Members}
	checkCount(t, last, nil, nil, false)
	checkCount(t, last, apart, nil, false)
	checkCount(t, last, boxOf([]int{40}, 2, 5, 9, 40), nil, false)
}

// winners returns the winners of all boxes of n members, indexed by their choices as digits of base four.
func winners(t *testing.T, n int) []int {
	var l []int
	for number := range 1 << (2 * n) {
		var choices []int
		counts := make([]int, 4)
		for i := range n {
			choices = append(choices, number>>(2*i)&3)
			counts[choices[i]]++
		}
		v, box := boxFor(choices)
		winner, reached := 0, 0
		for i, cut := range cutsFor(n) {
			if votes := fastvote.Votes(box, cut); votes != counts[i+1] {
				t.Errorf("P8.2: Votes(%v, %v) = %d, not %d", box, cut, votes, counts[i+1])
			} else if votes >= quorums[n] {
				reached++
			}
			if got, ok := fastvote.Winner(v, box); ok && slices.Equal(got, cut) {
				winner = i + 1
			}
		}
		if reached > 1 || (winner > 0) != (reached == 1) {
			t.Errorf("P8.3: %d cuts of %v have a fast quorum, and the winner is %d", reached, box, winner)
		}
		l = append(l, winner)
	}
	return l
}

// TestAllBoxes goes through all boxes of up to five members and all ballots that may follow: a winner stays, and a box is undecidable if nothing that follows has a winner.
func TestAllBoxes(t *testing.T) {
	for n := 1; n <= 5; n++ {
		known := winners(t, n)
		possible := make([]bool, len(known))
		// A box with one ballot more has a greater number.
		for number := len(known) - 1; number >= 0; number-- {
			possible[number] = known[number] > 0
			var choices []int
			for i := range n {
				choices = append(choices, number>>(2*i)&3)
			}
			v, box := boxFor(choices)
			for i, choice := range choices {
				for ballot := 1; choice == 0 && ballot <= 3; ballot++ {
					next := number + ballot<<(2*i)
					possible[number] = possible[number] || possible[next]
					if known[number] > 0 && known[next] != known[number] {
						t.Errorf("P8.3: the cut %d wins with %v, and %d after a ballot of %d", known[number], box, known[next], i+1)
					}
				}
			}
			if got := fastvote.Undecidable(v, box); got == possible[number] {
				t.Errorf("P8.2: Undecidable(%v, %v) = %v", v, box, got)
			}
		}
	}
}

// TestLongVotes casts the ballots of many members in many orders: once a cut has won it stays the winner, and once none can win none does.
func TestLongVotes(t *testing.T) {
	seed, won, lost := uint64(1), 0, 0
	next := func(n int) int {
		seed = seed*6364136223846793005 + 1442695040888963407
		return int(seed >> 33 % uint64(n))
	}
	for run := range 1500 {
		n := 1 + run%api.MaxMembers
		v := api.View{Number: run, Members: span(1, n)}
		waiting := span(1, n)
		var box []api.Ballot
		var winner []int
		undecidable := false
		for len(waiting) > 0 {
			i := next(len(waiting))
			choice := max(0, next(14)-11)
			cast, err := fastvote.Cast(v, box, api.Ballot{Member: waiting[i], Cut: cutsFor(n)[choice]})
			if err != api.OK {
				t.Fatalf("P8.1: Cast of %d into %v: %d", waiting[i], box, err)
			}
			box, waiting = cast, slices.Delete(waiting, i, i+1)
			got, ok := fastvote.Winner(v, box)
			if len(winner) > 0 && !slices.Equal(got, winner) || undecidable && ok {
				t.Errorf("P8.3: %v is the winner of %v; before, it was %v, or undecidable: %v", got, box, winner, undecidable)
			}
			winner = got
			if fastvote.Undecidable(v, box) {
				undecidable = true
			} else if undecidable {
				t.Errorf("P8.2: %v is not undecidable any more", box)
			}
		}
		if len(winner) > 0 {
			won++
		}
		if undecidable {
			lost++
		}
	}
	if won+lost != 1500 || won < 100 || lost < 100 {
		t.Errorf("P8.3: %d votes have a winner, and %d have none", won, lost)
	}
}
