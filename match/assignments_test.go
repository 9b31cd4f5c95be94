package match_test

import (
	"math"
	"math/rand/v2"
	"slices"
	"testing"

	"lagan/api"
	"lagan/match"
)

// P4.1, D4, D5: the examples.
func TestAssignExamples(t *testing.T) {
	for _, c := range []struct {
		what string
		b    api.Board
		want []int
	}{
		{"B", boardB(), []int{0, 1, 2}},
		{"C", boardC(), []int{0, 0, 1}},
		{"nothing", api.Board{}, nil},
		{"no finds", boardWith([]int{1, 2}), nil},
		{"no slots", boardWith(nil, nil, nil), []int{-1, -1}},
		{"a find that fits none", boardWith([]int{1, 1}, []int{1}, nil, []int{0, 1}), []int{1, -1, 0}},
		{"the first one gives way", boardWith([]int{1, 1}, []int{0, 1}, []int{0}), []int{1, 0}},
		{"the first one does not", boardWith([]int{1, 1, 1}, []int{0, 1}, []int{0, 2}), []int{0, 2}},
		{"all that give way", boardWith([]int{1, 1, 1, 1}, []int{0, 1}, []int{1, 2}, []int{2, 3}, []int{0}), []int{1, 2, 3, 0}},
		{"pieces", boardWith([]int{3, 1}, []int{0, 1}, []int{0, 1}, []int{0, 1}, []int{0, 1}), []int{0, 0, 0, 1}},
		{"pieces for the last one", boardWith([]int{2, 2}, []int{0, 1}, []int{0, 1}, []int{0, 1}, []int{0}), []int{0, 1, 1, 0}},
	} {
		l, is, e := match.Assign(c.b)
		fine(t, c.what, e)
		same(t, c.what, l, c.want)
		if ok, e := match.Meets(c.b, c.want); !ok || !is || e != api.OK {
			t.Errorf("%s: Assign %v; Meets %v, error %d", c.what, is, ok, e)
		}
		if l, is, e := match.Hall(c.b); len(l) > 0 || is || e != api.OK {
			t.Errorf("%s: Hall %v, %v, error %d", c.what, l, is, e)
		}
	}
	if l, is, e := match.Assign(boardD()); len(l) > 0 || is || e != api.OK {
		t.Errorf("Assign(D): %v, %v, error %d", l, is, e)
	}
	if l, is, e := match.Hall(boardD()); !modelIsHall(boardD(), l) || !is || e != api.OK {
		t.Errorf("Hall(D): %v, %v, error %d", l, is, e)
	}
}

// P4.1, D4: which lists are assignments.
func TestMeets(t *testing.T) {
	b := boardWith([]int{2, 1}, []int{0, 1}, nil, []int{0}, []int{0, 1})
	for _, c := range []struct {
		l    []int
		want bool
	}{
		{[]int{0, -1, 0, 1}, true},
		{[]int{1, -1, 0, 0}, true},
		{[]int{0, -1, 0, 0}, false},
		{[]int{1, -1, 0, 1}, false},
		{[]int{1, -1, 1, 0}, false},
		{[]int{-1, -1, 0, 0}, false},
		{[]int{1, -1, -1, 0}, false},
		{[]int{1, -1, 0, -1}, false},
		{[]int{1, 0, 0, 0}, false},
		{[]int{1, 1, 0, 0}, false},
		{[]int{1, -2, 0, 0}, false},
		{[]int{1, -1, 0}, false},
		{[]int{1, -1, 0, 0, -1}, false},
		{[]int{1, -1, 0, 2}, false},
		{[]int{1, 2, 0, 0}, false},
		{[]int{math.MinInt, -1, 0, 0}, false},
		{[]int{1, math.MaxInt, 0, 0}, false},
		{[]int{}, false},
		{nil, false},
	} {
		if is, e := match.Meets(b, c.l); is != c.want || e != api.OK {
			t.Errorf("Meets(%v): %v, error %d", c.l, is, e)
		}
	}
	for _, none := range [][]int{nil, {}} {
		if is, e := match.Meets(boardWith([]int{1}), none); !is || e != api.OK {
			t.Errorf("Meets without finds: %v, error %d", is, e)
		}
	}
	if is, e := match.Meets(boardWith(nil), []int{-1}); is || e != api.OK {
		t.Errorf("Meets of too many: %v, error %d", is, e)
	}
}

// P4.1, D5: which lists are Hall sets.
func TestCheckHall(t *testing.T) {
	d := boardWith([]int{1, 1, 20}, []int{0}, []int{0}, []int{0, 1}, nil, []int{0, 2}, []int{1})
	for _, c := range []struct {
		finds []int
		want  bool
	}{
		{[]int{0, 1}, true},
		{[]int{0, 1, 2}, true},
		{[]int{0, 1, 2, 5}, true},
		{[]int{0, 2, 5}, true},
		{[]int{0, 5}, false},
		{[]int{0, 2}, false},
		{[]int{0, 1, 4}, false},
		{[]int{0}, false},
		{[]int{0, 1, 3}, false},
		{[]int{3}, false},
		{[]int{1, 0}, false},
		{[]int{0, 0}, false},
		{[]int{0, 0, 1}, false},
		{[]int{0, 1, 1}, false},
		{[]int{-1, 0, 1}, false},
		{[]int{0, 1, 6}, false},
		{[]int{0, 1, math.MaxInt}, false},
		{[]int{math.MinInt, 0, 1}, false},
		{[]int{}, false},
		{nil, false},
	} {
		if is, e := match.CheckHall(d, c.finds); is != c.want || e != api.OK {
			t.Errorf("CheckHall(%v): %v, error %d", c.finds, is, e)
		}
	}
	if is, e := match.CheckHall(boardD(), []int{0, 1, 2}); !is || e != api.OK {
		t.Errorf("CheckHall(D): %v, error %d", is, e)
	}
	for _, finds := range subsets(3) {
		if is, e := match.CheckHall(boardB(), finds); is || e != api.OK {
			t.Errorf("CheckHall(B, %v): %v, error %d", finds, is, e)
		}
	}
}

// P4.1, P4.2: on all small boards there is the first of all assignments, or a Hall set, and never both.
func TestRandomAssignments(t *testing.T) {
	t.Parallel()
	r := rand.New(rand.NewPCG(4, 2))
	none := 0
	for range 3000 {
		b := smallBoard(r)
		all := modelAssignments(b)
		l, is, e := match.Assign(b)
		finds, isHall, f := match.Hall(b)
		if is != (len(all) > 0) || isHall == is || e != api.OK || f != api.OK {
			t.Fatalf("%+v: Assign %v, %v, error %d; Hall %v, %v, error %d", b, l, is, e, finds, isHall, f)
		}
		if is && !slices.Equal(l, all[0]) || !is && len(l) > 0 {
			t.Fatalf("%+v: Assign %v, want %v", b, l, all)
		}
		if isHall && !modelIsHall(b, finds) || !isHall && len(finds) > 0 {
			t.Fatalf("%+v: Hall %v", b, finds)
		}
		if isHall {
			none++
		}
		accepted := false
		for _, finds := range subsets(len(b.Finds)) {
			ok, e := match.CheckHall(b, finds)
			if ok != modelIsHall(b, finds) || e != api.OK {
				t.Fatalf("%+v: CheckHall of %v: %v, error %d", b, finds, ok, e)
			}
			accepted = accepted || ok
		}
		if accepted == is {
			t.Fatalf("%+v: Assign %v, and some Hall set %v", b, is, accepted)
		}
		checkMeets(t, r, b, all)
	}
	if none < 300 || none > 2700 {
		t.Errorf("%d boards have no assignment", none)
	}
}

// checkMeets holds Meets against all assignments, and against lists that are no assignments for the most part.
func checkMeets(t *testing.T, r *rand.Rand, b api.Board, all [][]int) {
	t.Helper()
	for _, l := range all[:min(len(all), 50)] {
		if is, e := match.Meets(b, l); !is || e != api.OK {
			t.Fatalf("%+v: Meets of %v: %v, error %d", b, l, is, e)
		}
	}
	for range 20 {
		l := make([]int, len(b.Finds))
		for i := range l {
			l[i] = r.IntN(len(b.Slots)+2) - 1
		}
		if len(all) > 0 && r.IntN(2) == 0 {
			l = slices.Clone(all[r.IntN(len(all))])
			if len(l) > 0 {
				l[r.IntN(len(l))] = r.IntN(len(b.Slots)+2) - 1
			}
		}
		if is, e := match.Meets(b, l); is != modelMeets(b, l) || e != api.OK {
			t.Fatalf("%+v: Meets of %v: %v, error %d", b, l, is, e)
		}
	}
}

// checkFirst shows that an assignment is the first one: each find that should have an earlier slot, with those before
// it as they are, leaves a Hall set.
func checkFirst(t *testing.T, b api.Board, l []int) {
	t.Helper()
	if !modelMeets(b, l) {
		t.Fatalf("Assign: %v is no assignment", l)
	}
	fixed := api.Board{Finds: b.Finds, Slots: b.Slots, Fits: slices.Clone(b.Fits)}
	for f, slot := range l {
		for _, earlier := range b.Fits[f] {
			if earlier >= slot {
				break
			}
			fixed.Fits[f] = []int{earlier}
			if finds, is, e := match.Hall(fixed); !is || e != api.OK || !modelIsHall(fixed, finds) {
				t.Fatalf("Assign: %d could have %d in the place of %d", f, earlier, slot)
			}
		}
		if slot >= 0 {
			fixed.Fits[f] = []int{slot}
		}
	}
}

// P4.1, P4.2: the same on large boards, where what is returned shows itself.
func TestLargeAssignments(t *testing.T) {
	t.Parallel()
	r := rand.New(rand.NewPCG(4, 3))
	seen := [2]int{}
	for range 60 {
		b := largeRandomBoard(r)
		l, is, e := match.Assign(b)
		finds, isHall, f := match.Hall(b)
		if is == isHall || e != api.OK || f != api.OK {
			t.Fatalf("%+v: Assign %v, error %d; Hall %v, error %d", b, is, e, isHall, f)
		}
		if isHall {
			seen[0]++
			if !modelIsHall(b, finds) || len(l) > 0 {
				t.Fatalf("%+v: Hall %v", b, finds)
			}
			continue
		}
		seen[1]++
		checkFirst(t, b, l)
	}
	if seen[0] < 10 || seen[1] < 10 {
		t.Errorf("%d without an assignment, %d with one", seen[0], seen[1])
	}
}

// largeRandomBoard returns a board with many finds and slots, which has an assignment in some cases.
func largeRandomBoard(r *rand.Rand) api.Board {
	finds := 20 + r.IntN(41)
	slots, pieces, most := finds/2+r.IntN(2*finds), 1+r.IntN(4), 3+r.IntN(4)
	b := randomBoard(r, finds, slots, pieces)
	for f := range b.Fits {
		// Few fits, which lie together for the most part, are those that are hard to assign.
		at, fits := r.IntN(slots), map[int]bool{}
		for range r.IntN(most + 1) {
			fits[min(slots-1, at+r.IntN(6))] = true
		}
		b.Fits[f] = nil
		for slot := range b.Slots {
			if fits[slot] {
				b.Fits[f] = append(b.Fits[f], slot)
			}
		}
	}
	return b
}

// P4.1: as many finds and slots as there can be, and the longest chains of finds that give way.
func TestLargestBoards(t *testing.T) {
	full := largeBoard(60, 3)
	for i := range full.Slots {
		full.Slots[i].Pieces = 20
	}
	l, is, e := match.Assign(full)
	if want := append(slices.Repeat([]int{0}, 20), append(slices.Repeat([]int{1}, 20), slices.Repeat([]int{2}, 20)...)...); !slices.Equal(l, want) || !is || e != api.OK {
		t.Errorf("Assign: %v, %v, error %d", l, is, e)
	}
	full.Slots[1].Pieces = 19
	if finds, is, e := match.Hall(full); len(finds) != 60 || !is || e != api.OK {
		t.Errorf("Hall: %v, %v, error %d", finds, is, e)
	}
	b := largeBoard(60, 200)
	if l, is, e := match.Assign(b); len(l) != 60 || l[59] != 59 || !is || e != api.OK {
		t.Errorf("Assign: %v, %v, error %d", l, is, e)
	}
	if c, e := match.Chances(b); len(c) != 60 || len(c[0]) != 200 || len(c[59]) != 200 || e != api.OK {
		t.Errorf("Chances: %v, error %d", c, e)
	}
	// Each find fits two neighbours, and the last one the first slot alone: all others have to give way.
	chain := largeBoard(60, 60)
	for f := range chain.Fits {
		chain.Fits[f] = []int{f, min(f+1, 59)}
	}
	chain.Fits[59] = []int{0}
	l, is, e = match.Assign(chain)
	for f, slot := range l {
		if slot != (f+1)%60 {
			t.Fatalf("Assign: %v", l)
		}
	}
	if len(l) != 60 || !is || e != api.OK {
		t.Errorf("Assign: %v, %v, error %d", l, is, e)
	}
	if must, e := match.Must(chain); !slices.Equal(must, l) || e != api.OK {
		t.Errorf("Must: %v, error %d", must, e)
	}
	chain.Fits[58] = []int{58}
	if finds, is, e := match.Hall(chain); len(finds) != 60 || !modelIsHall(chain, finds) || !is || e != api.OK {
		t.Errorf("Hall: %v, %v, error %d", finds, is, e)
	}
}
