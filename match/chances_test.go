package match_test

import (
	"math"
	"math/rand/v2"
	"slices"
	"testing"

	"lagan/api"
	"lagan/match"
)

// P4.1, D6 to D9: the examples.
func TestChancesExamples(t *testing.T) {
	b, c, d := boardB(), boardC(), boardD()
	for _, x := range []struct {
		b       api.Board
		chances [][]int
		must    []int
	}{
		{b, [][]int{{0}, {1}, {2}}, []int{0, 1, 2}},
		{c, [][]int{{0}, {0, 1}, {0, 1, 2}}, []int{0, -1, -1}},
		{api.Board{}, nil, nil},
		{boardWith([]int{1}, nil, []int{0}), [][]int{nil, {0}}, []int{-1, 0}},
	} {
		chances, e := match.Chances(x.b)
		fine(t, "Chances", e)
		sameLists(t, "Chances", chances, x.chances)
		must, e := match.Must(x.b)
		fine(t, "Must", e)
		same(t, "Must", must, x.must)
	}
	for _, x := range []struct {
		b          api.Board
		find, slot int
		want       []int // the one denial; none where the slot can be had
		denied     bool
	}{{b, 1, 0, []int{0}, true}, {b, 2, 1, []int{0, 1}, true}, {b, 0, 2, nil, true}, {b, 2, 2, nil, false}, {c, 1, 0, nil, false}} {
		finds, is, e := match.Refuse(x.b, x.find, x.slot)
		fine(t, "Refuse", e)
		same(t, "Refuse", finds, x.want)
		may, e := match.May(x.b, x.find, x.slot)
		fine(t, "May", e)
		if is != x.denied || may == x.denied {
			t.Errorf("%d, %d: Refuse %v, May %v", x.find, x.slot, is, may)
		}
	}
	for slot, want := range map[int][2]int{0: {1, 2}, 1: {0, 1}, 2: {0, 1}} {
		low, high, e := match.Load(c, slot)
		if (want != [2]int{low, high}) || e != api.OK {
			t.Errorf("Load(C, %d): %d, %d, error %d", slot, low, high, e)
		}
	}
	for f, want := range map[int]bool{0: true, 1: true, 2: false} {
		if is, e := match.Within(c, f, []int{0, 1}); is != want || e != api.OK {
			t.Errorf("Within(C, %d): %v, error %d", f, is, e)
		}
	}
	if is, e := match.May(d, 2, 1); is || e != api.ErrHall {
		t.Errorf("May(D, 2, 1): %v, error %d", is, e)
	}
}

// P4.1, D7: which lists are denials.
func TestCheckRefuse(t *testing.T) {
	b := boardB()
	long := boardWith([]int{2, 1, 1}, []int{0}, []int{0}, []int{0, 1}, []int{1, 2}, nil, []int{0, 1, 2})
	for _, c := range []struct {
		b          api.Board
		find, slot int
		finds      []int
		want       bool
	}{
		{b, 1, 0, []int{0}, true},
		{b, 1, 0, nil, false},
		{b, 1, 0, []int{0, 1}, false},
		{b, 1, 0, []int{0, 2}, false},
		{b, 2, 1, []int{0}, false},
		{b, 2, 1, []int{1}, false},
		{b, 2, 1, []int{0, 1}, true},
		{b, 2, 1, []int{1, 0}, false},
		{b, 2, 1, []int{0, 0, 1}, false},
		{b, 2, 1, []int{0, 1, 1}, false},
		{b, 2, 1, []int{0, 1, 2}, false},
		{b, 2, 1, []int{-1, 0, 1}, false},
		{b, 2, 1, []int{0, 1, 3}, false},
		{b, 2, 1, []int{0, 1, math.MaxInt}, false},
		{b, 2, 1, []int{math.MinInt}, false},
		{b, 0, 2, nil, true},
		{b, 0, 2, []int{}, true},
		{b, 0, 2, []int{1}, false},
		{b, 0, 2, []int{1, 2}, false},
		{b, 0, 1, []int{-1}, false},
		{b, 0, 0, nil, false},
		{b, 0, 0, []int{1, 2}, false},
		{long, 2, 0, []int{0, 1}, true},
		{long, 2, 1, []int{0, 1}, false},
		{long, 3, 1, []int{0, 1, 2}, true},
		{long, 3, 2, []int{0, 1, 2}, false},
		{long, 5, 2, []int{0, 1, 2, 3}, true},
		{long, 5, 2, []int{0, 1, 2, 3, 4}, false},
		{long, 5, 2, []int{0, 1, 2, 4}, false},
		{long, 4, 2, nil, true},
		{long, 4, 2, []int{0, 1}, false},
		// A Hall set of others denies all that a find fits, also a slot that is not among those of the set.
		{boardD(), 2, 0, []int{0, 1}, true},
		{boardD(), 2, 1, []int{0, 1}, true},
		{boardD(), 1, 0, []int{0, 2}, true},
		{boardD(), 1, 0, []int{0}, true},
		{boardD(), 0, 1, nil, true},
		{boardD(), 0, 1, []int{1, 2}, false},
	} {
		if want := modelIsDenial(c.b, c.find, c.slot, c.finds); want != c.want {
			t.Fatalf("the model takes %v for %d and %d: %v", c.finds, c.find, c.slot, want)
		}
		if is, e := match.CheckRefuse(c.b, c.find, c.slot, c.finds); is != c.want || e != api.OK {
			t.Errorf("CheckRefuse(%d, %d, %v): %v, error %d", c.find, c.slot, c.finds, is, e)
		}
	}
}

// answers is what every assignment of a board has, and what some one has.
type answers struct {
	may       [][]bool
	low, high []int
}

// modelAnswers looks at all assignments.
func modelAnswers(b api.Board, all [][]int) answers {
	a := answers{low: slices.Repeat([]int{math.MaxInt}, len(b.Slots)), high: make([]int, len(b.Slots))}
	for range b.Finds {
		a.may = append(a.may, make([]bool, len(b.Slots)))
	}
	for _, l := range all {
		for f, slot := range l {
			if slot >= 0 {
				a.may[f][slot] = true
			}
		}
		for slot := range b.Slots {
			a.low[slot] = min(a.low[slot], modelCount(l, slot))
			a.high[slot] = max(a.high[slot], modelCount(l, slot))
		}
	}
	return a
}

// P4.1, P4.3, P4.4, P4.6: on small boards, all that is asked is what all assignments have.
func TestRandomChances(t *testing.T) {
	t.Parallel()
	r := rand.New(rand.NewPCG(4, 4))
	refused, some := 0, 0
	for range 2500 {
		b := smallBoard(r)
		all := modelAssignments(b)
		if len(all) == 0 {
			checkHallErrors(t, b)
			continue
		}
		some++
		a := modelAnswers(b, all)
		chances, e := match.Chances(b)
		must, g := match.Must(b)
		if len(chances) != len(b.Finds) || len(must) != len(b.Finds) || e != api.OK || g != api.OK {
			t.Fatalf("%+v: Chances %v, error %d; Must %v, error %d", b, chances, e, must, g)
		}
		for f := range b.Finds {
			checkOne(t, r, b, f, a.may[f], chances[f], must[f])
			for slot := range b.Slots {
				refused += checkPair(t, b, f, slot, a.may[f][slot])
			}
		}
		for slot := range b.Slots {
			low, high, e := match.Load(b, slot)
			if low != a.low[slot] || high != a.high[slot] || e != api.OK {
				t.Fatalf("%+v: Load of %d: %d, %d, error %d, want %d, %d", b, slot, low, high, e, a.low[slot], a.high[slot])
			}
		}
	}
	if refused < 200 || some < 1000 {
		t.Errorf("%d refused, %d boards", refused, some)
	}
}

// checkHallErrors holds all functions that need an assignment against a board that has none.
func checkHallErrors(t *testing.T, b api.Board) {
	t.Helper()
	for f := range b.Finds {
		for slot := range b.Slots {
			may, e1 := match.May(b, f, slot)
			l, is, e2 := match.Through(b, f, slot)
			finds, isDenied, e3 := match.Refuse(b, f, slot)
			within, e4 := match.Within(b, f, []int{slot})
			low, high, e5 := match.Load(b, slot)
			if may || is || isDenied || within || low != 0 || high != 0 || len(l) > 0 || len(finds) > 0 {
				t.Fatalf("%+v: an answer beside an error for %d and %d", b, f, slot)
			}
			for _, e := range []api.Errno{e1, e2, e3, e4, e5} {
				if e != api.ErrHall {
					t.Fatalf("%+v: error %d for %d and %d", b, e, f, slot)
				}
			}
		}
	}
	chances, e := match.Chances(b)
	must, g := match.Must(b)
	if len(chances) > 0 || len(must) > 0 || e != api.ErrHall || g != api.ErrHall {
		t.Fatalf("%+v: Chances %v, error %d; Must %v, error %d", b, chances, e, must, g)
	}
}

// checkOne holds Chances, Must and Within for a find against the slots that assignments give it.
func checkOne(t *testing.T, r *rand.Rand, b api.Board, f int, may []bool, chances []int, must int) {
	t.Helper()
	var want []int
	for slot, is := range may {
		if is {
			want = append(want, slot)
		}
	}
	one := -1
	if len(want) == 1 {
		one = want[0]
	}
	if !slices.Equal(chances, want) || must != one {
		t.Fatalf("%+v: Chances of %d: %v, Must %d, want %v", b, f, chances, must, want)
	}
	lists := [][]int{nil, want}
	for range 4 {
		all := subsets(len(b.Slots))
		lists = append(lists, all[r.IntN(len(all))])
	}
	for _, slots := range lists {
		among := len(want) > 0
		for _, slot := range want {
			among = among && slices.Contains(slots, slot)
		}
		if is, e := match.Within(b, f, slots); is != among || e != api.OK {
			t.Fatalf("%+v: Within of %d, %v: %v, error %d, want %v", b, f, slots, is, e, want)
		}
	}
}

// checkPair holds May, Through, Refuse and CheckRefuse for a find and a slot against whether some assignment has it,
// and returns 1 if none has it, although it fits.
func checkPair(t *testing.T, b api.Board, f, slot int, want bool) int {
	t.Helper()
	may, e := match.May(b, f, slot)
	l, is, g := match.Through(b, f, slot)
	finds, isDenied, h := match.Refuse(b, f, slot)
	if may != want || is != want || isDenied == want || e != api.OK || g != api.OK || h != api.OK {
		t.Fatalf("%+v: %d, %d: May %v, Through %v, Refuse %v, want %v", b, f, slot, may, is, isDenied, want)
	}
	if is && (!modelMeets(b, l) || l[f] != slot) || !is && len(l) > 0 {
		t.Fatalf("%+v: Through of %d, %d: %v", b, f, slot, l)
	}
	if isDenied && !modelIsDenial(b, f, slot, finds) || !isDenied && len(finds) > 0 {
		t.Fatalf("%+v: Refuse of %d, %d: %v", b, f, slot, finds)
	}
	if len(b.Finds) > 6 {
		if ok, e := match.CheckRefuse(b, f, slot, finds); ok != isDenied || e != api.OK {
			t.Fatalf("%+v: CheckRefuse of %d, %d: %v, error %d", b, f, slot, ok, e)
		}
	} else {
		checkDenials(t, b, f, slot, want)
	}
	if len(finds) > 0 {
		return 1
	}
	return 0
}

// checkDenials goes through all lists of finds: some is a denial exactly if no assignment gives the find the slot.
func checkDenials(t *testing.T, b api.Board, f, slot int, may bool) {
	t.Helper()
	some := false
	for _, finds := range subsets(len(b.Finds)) {
		ok, e := match.CheckRefuse(b, f, slot, finds)
		if ok != modelIsDenial(b, f, slot, finds) || e != api.OK {
			t.Fatalf("%+v: CheckRefuse of %d, %d, %v: %v, error %d", b, f, slot, finds, ok, e)
		}
		some = some || ok
	}
	if some == may {
		t.Fatalf("%+v: %d, %d: May %v, and some denial %v", b, f, slot, may, some)
	}
}

// P4.2, P4.3: CheckRefuse goes by the board alone, also where there is no assignment.
func TestDenialsWithoutAssignments(t *testing.T) {
	t.Parallel()
	r := rand.New(rand.NewPCG(4, 5))
	for range 300 {
		b := smallBoard(r)
		for f := range b.Finds {
			for slot := range b.Slots {
				for _, finds := range subsets(len(b.Finds)) {
					if ok, e := match.CheckRefuse(b, f, slot, finds); ok != modelIsDenial(b, f, slot, finds) || e != api.OK {
						t.Fatalf("%+v: CheckRefuse of %d, %d, %v: %v, error %d", b, f, slot, finds, ok, e)
					}
				}
			}
		}
	}
}

// P4.3, P4.4, P4.6: the same on large boards, where what is returned shows itself.
func TestLargeChances(t *testing.T) {
	t.Parallel()
	r := rand.New(rand.NewPCG(4, 6))
	refused, some := 0, 0
	for range 60 {
		b := largeRandomBoard(r)
		chances, e := match.Chances(b)
		if e == api.ErrHall {
			continue
		}
		some++
		fine(t, "Chances", e)
		must, e := match.Must(b)
		fine(t, "Must", e)
		for f := range b.Finds {
			one := -1
			if len(chances[f]) == 1 {
				one = chances[f][0]
			}
			if must[f] != one || !slices.IsSorted(chances[f]) {
				t.Fatalf("%+v: Chances of %d: %v, Must %d", b, f, chances[f], must[f])
			}
			for _, slot := range b.Fits[f] {
				refused += checkPair(t, b, f, slot, slices.Contains(chances[f], slot))
			}
		}
		checkLargeLoads(t, b)
	}
	if refused < 50 || some < 10 {
		t.Errorf("%d refused, %d boards", refused, some)
	}
}

// checkLargeLoads shows that the loads of a board occur, and that no smaller and no greater ones do.
func checkLargeLoads(t *testing.T, b api.Board) {
	t.Helper()
	for slot := range b.Slots {
		low, high, e := match.Load(b, slot)
		fine(t, "Load", e)
		for n := range b.Slots[slot].Pieces + 1 {
			// The slot with n pieces, and as many finds more as there are pieces less, which fit it alone.
			most := pieced(b, slot, n)
			_, is, e := match.Assign(most)
			if is != (n >= low) || e != api.OK {
				t.Fatalf("%+v: Load of %d: %d, %d, with at most %d: %v, error %d", b, slot, low, high, n, is, e)
			}
		}
		fit := 0
		for _, fits := range b.Fits {
			if slices.Contains(fits, slot) {
				fit++
			}
		}
		if high != min(fit, b.Slots[slot].Pieces) {
			t.Fatalf("%+v: Load of %d: %d, %d, and %d fit", b, slot, low, high, fit)
		}
	}
}

// pieced returns a board in which a slot has so many pieces: none, if no find fits it.
func pieced(b api.Board, slot, pieces int) api.Board {
	c := api.Board{Finds: b.Finds, Slots: slices.Clone(b.Slots), Fits: b.Fits}
	if pieces > 0 {
		c.Slots[slot].Pieces = pieces
		return c
	}
	c.Fits = nil
	for _, fits := range b.Fits {
		left := slices.DeleteFunc(slices.Clone(fits), func(s int) bool { return s == slot })
		if len(fits) > 0 && len(left) == 0 {
			// It would fit none, and need no slot: two finds for one piece need one too many.
			return boardD()
		}
		c.Fits = append(c.Fits, left)
	}
	return c
}

// isAmong reports whether all of a list is in another one.
func isAmong(a, b []int) bool {
	return !slices.ContainsFunc(a, func(n int) bool { return !slices.Contains(b, n) })
}

// P4.5: what finds have on boards with one less, one barred, or one fixed.
func TestChancesOfOtherBoards(t *testing.T) {
	t.Parallel()
	r := rand.New(rand.NewPCG(4, 7))
	seen := [3]int{}
	for range 600 {
		b := smallBoard(r)
		chances, e := match.Chances(b)
		if e != api.OK {
			continue
		}
		for f := range b.Finds {
			less, e := match.Without(b, f)
			fine(t, "Without", e)
			more, e := match.Chances(less)
			fine(t, "Chances", e)
			for i, l := range slices.Delete(slices.Clone(chances), f, f+1) {
				if !isAmong(l, more[i]) {
					t.Fatalf("%+v without %d: %v to %v", b, f, l, more[i])
				}
			}
			seen[0]++
			for _, slot := range b.Fits[f] {
				may, e := match.May(b, f, slot)
				fine(t, "May", e)
				fixed, e := match.Fixed(b, f, slot)
				fine(t, "Fixed", e)
				if checkFewer(t, fixed, chances) != may {
					t.Fatalf("%+v with %d fixed at %d, and May %v", b, f, slot, may)
				}
				barred, e := match.Barred(b, f, slot)
				fine(t, "Barred", e)
				if len(barred.Fits[f]) > 0 && checkFewer(t, barred, chances) {
					seen[1]++
				}
				if may {
					seen[2]++
				}
			}
		}
	}
	for i, n := range seen {
		if n < 300 {
			t.Errorf("%d: seen %d times only", i, n)
		}
	}
}

// checkFewer reports whether a narrower board has an assignment, and then no more chances than the wider one.
func checkFewer(t *testing.T, narrow api.Board, wide [][]int) bool {
	t.Helper()
	chances, e := match.Chances(narrow)
	if e == api.ErrHall {
		return false
	}
	fine(t, "Chances", e)
	for f, l := range chances {
		if !isAmong(l, wide[f]) {
			t.Fatalf("%+v: chances of %d: %v, and %v before", narrow, f, l, wide[f])
		}
	}
	return true
}

// P4.6: in each assignment the slots have as many finds together as fit some slot.
func TestLoadsTogether(t *testing.T) {
	t.Parallel()
	r := rand.New(rand.NewPCG(4, 8))
	for range 500 {
		b := smallBoard(r)
		nobody, e := match.Nobody(b)
		fine(t, "Nobody", e)
		for _, l := range modelAssignments(b) {
			sum := 0
			for slot := range b.Slots {
				low, high, e := match.Load(b, slot)
				n := modelCount(l, slot)
				if n < low || n > high || e != api.OK {
					t.Fatalf("%+v: Load of %d: %d, %d, error %d, but %v", b, slot, low, high, e, l)
				}
				sum += n
			}
			if sum != len(b.Finds)-len(nobody) {
				t.Fatalf("%+v: %v gives %d, and %v fit none", b, l, sum, nobody)
			}
			if r.IntN(4) == 0 {
				break
			}
		}
	}
}
