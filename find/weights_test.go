package find_test

import (
	"math"
	"math/rand/v2"
	"slices"
	"testing"

	"lagan/api"
	"lagan/find"
)

// P3.1, C7: the examples of the chapter.
func TestExampleWeights(t *testing.T) {
	l := sample(t)
	for _, c := range []struct{ known, parcel, low, high int }{
		{12, 31, 1, 59}, {13, 31, 15, 35}, {14, 10, 45, 60}, {14, 31, 15, 30}, {14, 20, 10, 20}, {14, 30, 30, 30}, {14, 40, 35, 45},
		{5, 10, 40, 60}, {9, 30, 1, 59}, {12, 40, 11, 79},
	} {
		if low, high, e := find.Weight(l, c.known, c.parcel); low != c.low || high != c.high || e != api.OK {
			t.Errorf("Weight of %d at %d: %d to %d, error %d, want %d to %d", c.parcel, c.known, low, high, e, c.low, c.high)
		}
		for _, upper := range []bool{false, true} {
			end, x, side, e := find.Bound(l, c.known, c.parcel, upper)
			if want := map[bool]int{false: c.low, true: c.high}[upper]; end != want || e != api.OK {
				t.Errorf("Bound of %d at %d: %d, error %d, want %d", c.parcel, c.known, end, e, want)
			}
			checkBound(t, l, c.known, c.parcel, upper, end, x, side)
		}
	}
	for _, c := range []struct {
		known, parcel int
		upper         bool
		end           int
		side          []int
		want          bool
	}{
		{14, 31, true, 30, []int{3}, true}, {14, 31, true, 29, []int{3}, false}, {14, 31, true, 31, []int{3}, true},
		{14, 31, true, 35, []int{4}, true}, {14, 31, true, 34, []int{4}, false},
		{14, 31, false, 10, []int{3}, true}, {14, 31, false, 11, []int{3}, false}, // 40 - 30
		{14, 31, false, 15, []int{4}, true}, {14, 31, false, 16, []int{4}, false}, // 35 - 20
		{14, 31, true, 100000000, nil, true}, {14, 31, true, 99999999, nil, false},
		{14, 31, false, 1, nil, true}, {14, 31, false, 2, nil, false}, {14, 31, false, math.MinInt, nil, true}, {14, 31, true, math.MaxInt, nil, true},
		{14, 31, true, 1000, []int{3, 4}, false},                                      // it is within
		{14, 30, true, 45, []int{3, 4}, true}, {14, 30, true, 44, []int{3, 4}, false}, // 60 + 20 - 35
		{14, 20, false, 5, []int{3, 4}, true}, {14, 20, false, 6, []int{3, 4}, false}, // 35 + 30 - 60
		{14, 10, true, 1000000000, []int{4}, false}, // it lies elsewhere
		{14, 31, true, 1000, []int{4, 3}, false}, {14, 31, true, 1000, []int{3, 3}, false}, {14, 31, true, 1000, []int{1}, false},
		{14, 31, true, 1000, []int{0}, false}, {14, 31, true, 1000, []int{3, 5}, false}, {14, 31, true, 1000, []int{3, 99}, false},
		{12, 31, true, 59, []int{3}, true}, {12, 31, true, 58, []int{3}, false},
		{9, 31, true, 1000000000, []int{4}, false}, // not known yet
	} {
		if is, e := find.CheckSide(l, c.known, c.parcel, c.upper, c.end, c.side); is != c.want || e != api.OK {
			t.Errorf("CheckSide at %d of %d, %v: %d, %v: %v, error %d, want %v", c.known, c.parcel, c.upper, c.end, c.side, is, e, c.want)
		}
	}
	for _, c := range []struct {
		known int
		x     []int
		want  bool
	}{
		{14, []int{50, 15, 30, 20, 35}, true}, {14, []int{45, 20, 30, 15, 35}, true}, {14, []int{50, 15, 30, 21, 35}, false}, {14, []int{50, 15, 30, 20, 36}, false},
		{14, []int{40, 20, 30, 10, 30}, false}, {14, []int{61, 10, 30, 31, 41}, false}, {14, []int{50, 9, 30, 20, 29}, false}, {14, []int{50, 15, 30, 20}, false},
		{14, []int{50, 15, 30, 20, 35, 1}, false}, {14, nil, false}, {-1, nil, true}, {-1, []int{}, true}, {-1, []int{1}, false}, {5, []int{60}, true}, {5, []int{61}, false},
		{9, []int{50, 10, 25, 25}, true}, {14, []int{math.MinInt, 15, 30, 20, 35}, false}, {14, []int{math.MaxInt, math.MaxInt, math.MaxInt, 2, math.MaxInt}, false},
	} {
		if is, e := find.CheckWeights(l, c.known, c.x); is != c.want || e != api.OK {
			t.Errorf("CheckWeights at %d of %v: %v, error %d", c.known, c.x, is, e)
		}
	}
}

// checkBound holds what Bound returns against the model, and against the functions that check it.
func checkBound(t *testing.T, l []api.Report, known, parcel int, upper bool, end int, x, side []int) {
	t.Helper()
	counts := modelCounting(l, known)
	parcels := modelParcels(counts)
	i := slices.IndexFunc(parcels, func(p api.Parcel) bool { return p.Id == parcel })
	if !modelBalanced(parcels, modelMoves(counts), x) || x[i] != end {
		t.Fatalf("Bound of %d, %v, at %d of %+v: %d, weights %v", parcel, upper, known, l, end, x)
	}
	n, is := modelSum(parcels, parcels[i], upper, side)
	if !is || n != end {
		t.Fatalf("Bound of %d, %v, at %d of %+v: %d, but side %v shows %d, %v", parcel, upper, known, l, end, side, n, is)
	}
	if is, e := find.CheckWeights(l, known, x); !is || e != api.OK {
		t.Fatalf("CheckWeights: %v, error %d", is, e)
	}
	wider := map[bool]int{false: end - 1, true: end + 1}[upper]
	for _, c := range []struct {
		end  int
		want bool
	}{{end, true}, {wider, true}, {2*end - wider, false}} {
		if is, e := find.CheckSide(l, known, parcel, upper, c.end, side); is != c.want || e != api.OK {
			t.Fatalf("CheckSide of %d, %v, at %d of %+v: %d, %v: %v, error %d", parcel, upper, known, l, c.end, side, is, e)
		}
	}
}

// P3.1, C8: conflicts of the example, and of lists in which much is said wrongly.
func TestExampleConflict(t *testing.T) {
	l := with(t, sample(t), "8 20 13 weighed 30 70 80")
	c, is, e := find.Conflict(l, 20)
	if ok, f := find.CheckConflict(l, 20, c); !is || e != api.OK || !ok || f != api.OK || c.Parcel != 30 {
		t.Errorf("Conflict: %+v, %v, error %d", c, is, e)
	}
	if c, is, e := find.Conflict(l, 19); c.Parcel != 0 || len(c.Side) > 0 || is || e != api.OK {
		t.Errorf("Conflict before it is known: %+v, %v, error %d", c, is, e)
	}
	// 10 weighs 40 to 60, of which 30 and 31 weigh 70 and more.
	l = with(t, sample(t)[:4], "5 13 12 weighed 40 80 90", "6 14 12 weighed 30 15 15")
	for _, d := range []struct {
		c     api.Conflict
		known int
		want  bool
	}{
		{api.Conflict{Side: []int{3, 4}}, 14, true}, {api.Conflict{Side: []int{3, 4}}, 13, true}, {api.Conflict{Side: []int{3, 4}}, 12, false},
		{api.Conflict{Side: []int{4}}, 14, false}, {api.Conflict{Side: []int{3}}, 14, false}, {api.Conflict{}, 14, false}, {api.Conflict{Side: []int{}}, 14, false},
		{api.Conflict{Side: []int{4, 3}}, 14, false}, {api.Conflict{Side: []int{3, 3, 4}}, 14, false}, {api.Conflict{Side: []int{1, 3, 4}}, 14, false},
		{api.Conflict{Side: []int{3, 4, 9}}, 14, false}, {api.Conflict{Parcel: 10, Side: []int{3, 4}}, 14, false}, {api.Conflict{Parcel: 10}, 14, false},
		{api.Conflict{Parcel: 11}, 14, false}, {api.Conflict{Parcel: -1}, 14, false}, {api.Conflict{Parcel: math.MaxInt, Side: []int{3, 4}}, 14, false},
	} {
		if is, e := find.CheckConflict(l, d.known, d.c); is != d.want || e != api.OK {
			t.Errorf("CheckConflict at %d of %+v: %v, error %d", d.known, d.c, is, e)
		}
	}
	torn := with(t, sample(t)[:2], "8 20 13 weighed 10 70 80")
	for _, d := range []struct {
		c    api.Conflict
		want bool
	}{{api.Conflict{Parcel: 10}, true}, {api.Conflict{Parcel: 10, Side: []int{}}, true}, {api.Conflict{Parcel: 10, Side: []int{3}}, false}, {api.Conflict{Parcel: 20}, false}, {api.Conflict{}, false}} {
		if is, e := find.CheckConflict(torn, 20, d.c); is != d.want || e != api.OK {
			t.Errorf("CheckConflict of %+v: %v, error %d", d.c, is, e)
		}
	}
	// More leaves than can enter, and more enters than can leave.
	for _, lines := range [][]string{
		{"1 0 0 found 1 a oil 5 6 1", "2 1 1 divided 10 7"},
		{"1 0 0 found 1 a oil 5 6 1", "2 1 1 divided 10 2", "3 1 1 weighed 20 1 2", "4 1 1 weighed 21 1 2"},
	} {
		l := read(t, lines...)
		if is, e := find.CheckConflict(l, 1, api.Conflict{Side: []int{2}}); !is || e != api.OK {
			t.Errorf("CheckConflict of %q: %v, error %d", lines, is, e)
		}
		if c, is, e := find.Conflict(l, 1); c.Parcel != 0 || !slices.Equal(c.Side, []int{2}) || !is || e != api.OK {
			t.Errorf("Conflict of %q: %+v, %v, error %d", lines, c, is, e)
		}
	}
}

// P3.1, C9: the examples of the chapter, and which report says something first.
func TestExampleRests(t *testing.T) {
	l := sample(t)
	more := with(t, l, "15 15 15 weighed 30 20 30", "16 16 16 weighed 30 30 40", "17 16 16 weighed 40 1 45")
	twins := read(t, "2 0 0 found 1 a oil 3 9 1", "1 0 0 found 1 a oil 5 9 1", "4 0 0 found 1 a oil 5 8 1", "3 1 1 weighed 20 4 7",
		"9 2 2 same 10 20", "8 2 2 same 40 10", "6 3 3 weighed 40 5 8", "5 4 4 divided 40 2", "7 4 4 weighed 50 1 2")
	for _, c := range []struct {
		l      []api.Report
		known  int
		parcel int
		upper  bool
		side   []int
		want   []int
	}{
		{l, 14, 31, true, []int{3}, []int{1, 6}}, {l, 14, 31, true, []int{4}, []int{2, 5}}, {l, 14, 31, false, []int{4}, []int{2, 5}},
		{l, 14, 31, true, nil, nil}, {l, 14, 31, false, nil, nil}, {l, 14, 30, true, nil, []int{6}}, {l, 14, 10, true, nil, []int{1}},
		{l, 14, 30, true, []int{3, 4}, []int{1, 2, 5}}, {l, 12, 31, true, []int{3}, []int{1}}, {l, 12, 31, true, []int{4}, []int{2}},
		{more, 16, 30, true, nil, []int{6}}, {more, 16, 30, false, nil, []int{6}}, {more, 16, 40, true, nil, []int{5}}, {more, 16, 31, true, []int{3}, []int{1, 6}},
		{twins, 0, 20, true, nil, []int{2}}, {twins, 0, 10, true, nil, []int{1}}, {twins, 1, 20, true, nil, []int{3}}, {twins, 1, 20, false, nil, []int{3}},
		{twins, 2, 40, true, nil, []int{3}}, {twins, 2, 40, false, nil, []int{1}}, {twins, 4, 40, true, nil, []int{3}},
		{twins, 4, 51, true, []int{5}, []int{3}}, {twins, 4, 51, false, []int{5}, []int{1, 7}}, {twins, 4, 50, false, nil, nil},
	} {
		if ids, e := find.Rests(c.l, c.known, c.parcel, c.upper, c.side); !slices.Equal(ids, c.want) || e != api.OK {
			t.Errorf("Rests at %d of %d, %v, %v: %v, error %d, want %v", c.known, c.parcel, c.upper, c.side, ids, e, c.want)
		}
	}
	for _, side := range [][]int{{4, 3}, {3, 3}, {1}, {0}, {5}, {99}, {3, 4}} {
		if ids, e := find.Rests(l, 14, 31, true, side); len(ids) > 0 || e != api.ErrArg {
			t.Errorf("Rests of %v: %v, error %d", side, ids, e)
		}
	}
	if ids, e := find.Rests(l, 14, 10, true, []int{4}); len(ids) > 0 || e != api.ErrArg {
		t.Errorf("Rests of a side elsewhere: %v, error %d", ids, e)
	}
}

// P3.1, C9: the example of the chapter, both ways, and what is at one of the hours alone.
func TestExampleChanged(t *testing.T) {
	l := sample(t)
	for _, c := range []struct {
		from, to int
		want     []int
	}{{13, 14, []int{10, 30, 31}}, {14, 13, []int{10, 30, 31}}, {14, 14, nil}, {9, 14, []int{10, 30, 31}}, {12, 13, []int{30, 31, 40}}, {8, 9, nil}, {-1, 14, nil}} {
		if ids, e := find.Changed(l, c.from, c.to); !slices.Equal(ids, c.want) || e != api.OK {
			t.Errorf("Changed from %d to %d: %v, error %d, want %v", c.from, c.to, ids, e, c.want)
		}
	}
	same := read(t, "1 0 0 found 1 a oil 3 9 1", "2 0 0 found 1 a oil 5 9 1", "3 1 1 same 10 20")
	if ids, e := find.Changed(same, 0, 1); !slices.Equal(ids, []int{10}) || e != api.OK {
		t.Errorf("Changed when two are one: %v, error %d", ids, e)
	}
}

// P3.1, C7 to C9: functions with an asterisk, and no others, refuse reports that contradict each other.
func TestBalance(t *testing.T) {
	l := with(t, sample(t), "8 20 13 weighed 30 70 80")
	for _, parcel := range []int{10, 20, 30, 31, 40} {
		for _, upper := range []bool{false, true} {
			if end, x, side, e := find.Bound(l, 20, parcel, upper); end != 0 || len(x) > 0 || len(side) > 0 || e != api.ErrBalance {
				t.Errorf("Bound: %d, %v, %v, error %d", end, x, side, e)
			}
		}
		if low, high, e := find.Weight(l, 20, parcel); low != 0 || high != 0 || e != api.ErrBalance {
			t.Errorf("Weight: %d, %d, error %d", low, high, e)
		}
	}
	for _, parcel := range []int{0, 11, 32, 80} {
		for _, upper := range []bool{false, true} {
			if end, x, side, e := find.Bound(l, 20, parcel, upper); end != 0 || len(x) > 0 || len(side) > 0 || e != api.ErrParcel {
				t.Errorf("Bound of %d: %d, %v, %v, error %d", parcel, end, x, side, e)
			}
		}
		if low, high, e := find.Weight(l, 20, parcel); low != 0 || high != 0 || e != api.ErrParcel {
			t.Errorf("Weight of %d: %d, %d, error %d", parcel, low, high, e)
		}
	}
	for _, c := range [][2]int{{20, 14}, {14, 20}, {20, 20}, {-1, 20}} {
		if ids, e := find.Changed(l, c[0], c[1]); len(ids) > 0 || e != api.ErrBalance {
			t.Errorf("Changed from %d to %d: %v, error %d", c[0], c[1], ids, e)
		}
	}
	if is, e := find.CheckWeights(l, 20, []int{50, 15, 70, 20, 35}); is || e != api.OK {
		t.Errorf("CheckWeights: %v, error %d", is, e)
	}
	if is, e := find.CheckSide(l, 20, 31, true, -10, []int{3}); !is || e != api.OK { // 60 - 70
		t.Errorf("CheckSide: %v, error %d", is, e)
	}
	if is, e := find.CheckSide(l, 20, 31, true, -11, []int{3}); is || e != api.OK {
		t.Errorf("CheckSide: %v, error %d", is, e)
	}
	if ids, e := find.Rests(l, 20, 31, true, []int{3}); !slices.Equal(ids, []int{1, 8}) || e != api.OK {
		t.Errorf("Rests: %v, error %d", ids, e)
	}
	if ids, e := find.Origins(l, 20, 40); !slices.Equal(ids, []int{10, 20}) || e != api.OK {
		t.Errorf("Origins: %v, error %d", ids, e)
	}
}

// fewMoves writes a random list with at most so many moves as all sides can be gone through.
func fewMoves(r *rand.Rand, most int, wrong float64) ([]api.Report, int) {
	for {
		l := newWriter(r, most, wrong).list(8 + r.IntN(25))
		known := l[len(l)-1].Known - r.IntN(2)*r.IntN(8)
		if len(modelMoves(modelCounting(l, known))) <= 8 {
			return l, known
		}
	}
}

// P3.1, C7, C8, P3.3 and P3.4: ends, what shows them, and conflicts are those that all sides show.
func TestRandomWeights(t *testing.T) {
	t.Parallel()
	r := rand.New(rand.NewPCG(3, 5))
	seen := map[string]int{}
	for range 250 {
		l, known := fewMoves(r, []int{3, 9, 40}[r.IntN(3)], []float64{0, 0, 0.1}[r.IntN(3)])
		counts := modelCounting(l, known)
		parcels, sides := modelParcels(counts), modelSides(modelMoves(counts))
		c, is, e := find.Conflict(l, known)
		if want := modelContradict(parcels, sides); is != want || e != api.OK {
			t.Fatalf("Conflict at %d of %+v: %+v, %v, error %d, want %v", known, l, c, is, e, want)
		}
		ok, e := find.CheckConflict(l, known, c)
		if ok != is || e != api.OK || is != modelIsConflict(parcels, c) || !is && (c.Parcel != 0 || len(c.Side) > 0) {
			t.Fatalf("CheckConflict at %d of %+v of %+v: %v, error %d", known, l, c, ok, e)
		}
		for _, p := range parcels {
			low, high, e := find.Weight(l, known, p.Id)
			if is {
				if low != 0 || high != 0 || e != api.ErrBalance {
					t.Fatalf("Weight of a contradiction: %d to %d, error %d", low, high, e)
				}
				continue
			}
			if want := modelEnds(parcels, p, sides); low != want.Low || high != want.High || e != api.OK {
				t.Fatalf("Weight of %d at %d of %+v: %d to %d, error %d, want %v", p.Id, known, l, low, high, e, want)
			}
			for _, upper := range []bool{false, true} {
				end, x, side, e := find.Bound(l, known, p.Id, upper)
				if want := map[bool]int{false: low, true: high}[upper]; end != want || e != api.OK {
					t.Fatalf("Bound of %d, %v, at %d of %+v: %d, error %d, want %d", p.Id, upper, known, l, end, e, want)
				}
				checkBound(t, l, known, p.Id, upper, end, x, side)
				if len(side) > 0 {
					seen["side"]++
				}
			}
		}
		if is && c.Parcel == 0 {
			seen["conflict of a side"]++
		} else if is {
			seen["conflict of a parcel"]++
		}
	}
	for _, what := range []string{"side", "conflict of a side", "conflict of a parcel"} {
		if seen[what] < 10 {
			t.Errorf("%s: seen %d times only", what, seen[what])
		}
	}
}

// P3.1, C7, C8, C9: sides and conflicts of all kinds are judged as the model judges them.
func TestRandomSides(t *testing.T) {
	t.Parallel()
	r := rand.New(rand.NewPCG(3, 6))
	for range 60 {
		l, known := fewMoves(r, 9, 0.1)
		counts := modelCounting(l, known)
		parcels, moves := modelParcels(counts), modelMoves(counts)
		sides := modelSides(moves)
		for range 60 {
			if len(parcels) == 0 {
				continue
			}
			p, side, upper := parcels[r.IntN(len(parcels))], sides[r.IntN(len(sides))], r.IntN(2) == 0
			n, shows := modelSum(parcels, p, upper, side)
			end := n + r.IntN(3) - 1
			want := shows && (upper && n <= end || !upper && n >= end)
			if is, e := find.CheckSide(l, known, p.Id, upper, end, side); is != want || e != api.OK {
				t.Fatalf("CheckSide of %d, %v, at %d of %+v: %d, %v: %v, error %d, want %v", p.Id, upper, known, l, end, side, is, e, want)
			}
			ids, e := find.Rests(l, known, p.Id, upper, side)
			if shows != (e == api.OK) || !shows && e != api.ErrArg || !slices.Equal(ids, modelRests(counts, parcels, p, upper, side)) {
				t.Fatalf("Rests of %d, %v, at %d of %+v, %v: %v, error %d, want %v", p.Id, upper, known, l, side, ids, e, modelRests(counts, parcels, p, upper, side))
			}
			c := api.Conflict{Side: side}
			if r.IntN(3) == 0 {
				c = api.Conflict{Parcel: p.Id}
			}
			if is, e := find.CheckConflict(l, known, c); is != modelIsConflict(parcels, c) || e != api.OK {
				t.Fatalf("CheckConflict at %d of %+v of %+v: %v, error %d", known, l, c, is, e)
			}
			spoilt := spoiltChain(r, [][]int{side}, moves)
			isSide := slices.ContainsFunc(sides, func(side []int) bool { return slices.Equal(side, spoilt) })
			if is, e := find.CheckSide(l, known, p.Id, true, math.MaxInt, spoilt); !isSide && is || e != api.OK {
				t.Fatalf("CheckSide of %v: %v, error %d", spoilt, is, e)
			}
			if ids, e := find.Rests(l, known, p.Id, true, spoilt); !isSide && (len(ids) > 0 || e != api.ErrArg) {
				t.Fatalf("Rests of %v: %v, error %d", spoilt, ids, e)
			}
		}
	}
}

// modelRests returns the first reports that say what a sum uses.
func modelRests(counts []api.Report, parcels []api.Parcel, p api.Parcel, upper bool, side []int) []int {
	ids := map[int]bool{}
	use := func(q api.Parcel, high bool) {
		for _, x := range counts {
			of := modelSays(x)
			if of == 0 || !modelBecame(counts, of, q.Id) {
				continue
			}
			if high && x.Weight.High == q.Weight.High || !high && x.Weight.Low == q.Weight.Low && q.Weight.Low > 1 {
				ids[x.Id] = true
				return
			}
		}
	}
	enters, leaves := modelLies(p, side)
	if len(side) == 0 {
		use(p, upper)
	} else if !enters && !leaves {
		return nil
	}
	for _, q := range parcels {
		in, out := modelLies(q, side)
		switch {
		case enters && out, leaves && in:
			use(q, upper)
		case q.Id != p.Id && (enters && in || leaves && out):
			use(q, !upper)
		}
	}
	var out []int
	for id := range ids {
		out = append(out, id)
	}
	slices.Sort(out)
	return out
}

// allBalanced goes through all balanced weights of parcels of which the finds weigh little.
func allBalanced(counts []api.Report, parcels []api.Parcel, do func(weight map[int]int)) {
	span := map[int]api.Span{}
	for _, p := range parcels {
		span[p.Id] = p.Weight
	}
	weight := map[int]int{}
	var on func(i int)
	// give tries all weights of what a report makes, which weighs a sum together, and goes on behind it.
	var give func(i int, ids []int, sum int)
	give = func(i int, ids []int, sum int) {
		if len(ids) == 0 {
			if sum == 0 {
				on(i + 1)
			}
			return
		}
		low, high := span[ids[0]].Low, min(sum, span[ids[0]].High)
		if len(ids) == 1 {
			low = max(low, sum)
		}
		for n := low; n <= high; n++ {
			weight[ids[0]] = n
			give(i, ids[1:], sum-n)
		}
	}
	on = func(i int) {
		if i == len(counts) {
			do(weight)
			return
		}
		x := counts[i]
		_, isParcel := span[10*x.Id]
		switch {
		case x.Kind == api.ReportFound && isParcel:
			for n := span[10*x.Id].Low; n <= span[10*x.Id].High; n++ {
				give(i, modelMakes(x), n)
			}
		case x.Kind == api.ReportDivided || x.Kind == api.ReportJoined:
			sum := 0
			for _, id := range modelUses(x) {
				sum += weight[id]
			}
			give(i, modelMakes(x), sum)
		default:
			on(i + 1)
		}
	}
	on(0)
}

// P3.2, P3.3, P3.4: all balanced weights of small lists: each number between the ends occurs and no other, and all finds
// weigh what all parcels weigh that are there.
func TestAllWeights(t *testing.T) {
	t.Parallel()
	r := rand.New(rand.NewPCG(3, 7))
	balanced := 0
	for range 2000 {
		l := newWriter(r, 5, 0.1).list(3 + r.IntN(7))
		known := l[len(l)-1].Known
		counts := modelCounting(l, known)
		parcels := modelParcels(counts)
		can, any := map[int]map[int]bool{}, false
		for _, p := range parcels {
			can[p.Id] = map[int]bool{}
		}
		allBalanced(counts, parcels, func(weight map[int]int) {
			any = true
			found, there := 0, 0
			var x []int
			for _, p := range parcels {
				can[p.Id][weight[p.Id]] = true
				x = append(x, weight[p.Id])
				if p.Found {
					found += weight[p.Id]
				}
				if p.Into == 0 {
					there += weight[p.Id]
				}
			}
			if found != there {
				t.Fatalf("%v of %+v: the finds weigh %d, what is there %d", x, l, found, there)
			}
			if r.IntN(50) == 0 {
				if is, e := find.CheckWeights(l, known, x); !is || e != api.OK {
					t.Fatalf("CheckWeights of %v: %v, error %d", x, is, e)
				}
			}
		})
		if _, is, e := find.Conflict(l, known); is == any || e != api.OK {
			t.Fatalf("Conflict of %+v: %v, error %d, want %v", l, is, e, !any)
		}
		if !any {
			continue
		}
		balanced++
		for _, p := range parcels {
			low, high, e := find.Weight(l, known, p.Id)
			for n := low; n <= high && n < low+1000; n++ {
				if !can[p.Id][n] {
					t.Fatalf("Weight of %d in %+v: %d to %d, but not %d", p.Id, l, low, high, n)
				}
			}
			if len(can[p.Id]) != high-low+1 || e != api.OK {
				t.Fatalf("Weight of %d in %+v: %d to %d, error %d, want %v", p.Id, l, low, high, e, can[p.Id])
			}
		}
	}
	if balanced < 500 {
		t.Errorf("only %d lists have balanced weights", balanced)
	}
}

// ends returns the ends of all parcels, and whether there are balanced weights.
func ends(t *testing.T, l []api.Report, known int) (map[int]api.Span, bool) {
	t.Helper()
	out := map[int]api.Span{}
	for _, p := range modelParcels(modelCounting(l, known)) {
		low, high, e := find.Weight(l, known, p.Id)
		if e == api.ErrBalance {
			return nil, false
		}
		if e != api.OK {
			t.Fatalf("Weight: error %d", e)
		}
		out[p.Id] = api.Span{Low: low, High: high}
	}
	return out, true
}

func isIn(a, b api.Span) bool { return b.Low <= a.Low && a.High <= b.High }

// P3.5: a further report narrows, and a void of a weighing widens. P3.1, C9: Changed has what differs.
func TestNarrowing(t *testing.T) {
	t.Parallel()
	r := rand.New(rand.NewPCG(3, 8))
	seen := map[uint8]int{}
	for i := range 600 {
		w := newWriter(r, []int{4, 30}[r.IntN(2)], 0.02)
		l := w.list(5 + r.IntN(20))
		x := w.report()
		for i%3 == 0 && x.Kind != api.ReportSame {
			x = w.report()
		}
		x.Known++
		longer, e := find.Append(l, x)
		if e != api.OK {
			continue
		}
		before, isBefore := ends(t, l, x.Known-1)
		after, isAfter := ends(t, longer, x.Known)
		ids, e := find.Changed(longer, x.Known-1, x.Known)
		if !isBefore || !isAfter {
			if len(ids) > 0 || e != api.ErrBalance {
				t.Fatalf("Changed of a contradiction: %v, error %d", ids, e)
			}
			continue
		}
		var want []int
		for id, a := range after {
			b, both := before[id]
			if both && a != b {
				want = append(want, id)
			}
			isWeighing := slices.ContainsFunc(l, func(y api.Report) bool { return y.Id == x.Of && y.Kind == api.ReportWeighed })
			if both && (x.Kind != api.ReportVoid && !isIn(a, b) || isWeighing && !isIn(b, a)) {
				t.Fatalf("%+v behind %+v: %d from %v to %v", x, l, id, b, a)
			}
		}
		slices.Sort(want)
		if !slices.Equal(ids, want) || e != api.OK {
			t.Fatalf("Changed by %+v behind %+v: %v, error %d, want %v", x, l, ids, e, want)
		}
		seen[x.Kind]++
	}
	for kind := range uint8(8) {
		if seen[kind+1] < 4 {
			t.Errorf("kind %d: seen %d times only", kind+1, seen[kind+1])
		}
	}
}

// P3.7: without all weighings on which it does not rest an end is still shown.
func TestRandomRests(t *testing.T) {
	t.Parallel()
	r := rand.New(rand.NewPCG(3, 9))
	shown := 0
	for range 120 {
		l := newWriter(r, 30, 0).list(6 + r.IntN(25))
		known := l[len(l)-1].Known
		counts := modelCounting(l, known)
		for _, p := range modelParcels(counts) {
			upper := r.IntN(2) == 0
			end, _, side, e := find.Bound(l, known, p.Id, upper)
			if e == api.ErrBalance {
				break
			}
			ids, e := find.Rests(l, known, p.Id, upper, side)
			if e != api.OK {
				t.Fatalf("Rests: error %d", e)
			}
			less := slices.Clone(l)
			for i, x := range counts {
				if x.Kind == api.ReportWeighed && !slices.Contains(ids, x.Id) {
					less, e = find.Append(less, api.Report{Id: 1000 + i, Known: known, Kind: api.ReportVoid, Of: x.Id})
					if e != api.OK {
						t.Fatalf("Append: error %d", e)
					}
					shown++
				}
			}
			if is, e := find.CheckSide(less, known, p.Id, upper, end, side); !is || e != api.OK {
				t.Fatalf("CheckSide of %d, %v, of %+v, %d, %v, without others than %v: %v, error %d", p.Id, upper, l, end, side, ids, is, e)
			}
		}
	}
	if shown < 100 {
		t.Errorf("only %d weighings were withdrawn", shown)
	}
}

// P3.3: weights as great as there can be, and as many moves.
func TestGreat(t *testing.T) {
	l := manyReports(100)
	for i := range l {
		l[i].Weight = api.Span{Low: 90000, High: 100000}
	}
	heap := 10
	for i := 101; i < 200; i++ {
		l = append(l, api.Report{Id: i, Kind: api.ReportJoined, Parts: []int{heap, 10 * (i - 99)}})
		heap = 10 * i
	}
	l = append(l, api.Report{Id: 1000000, Kind: api.ReportDivided, Parcel: heap, Count: 8})
	if low, high, e := find.Weight(l, 0, heap); low != 9000000 || high != 10000000 || e != api.OK {
		t.Errorf("Weight of all: %d to %d, error %d", low, high, e)
	}
	if low, high, e := find.Weight(l, 0, 10000007); low != 1 || high != 10000000-7 || e != api.OK {
		t.Errorf("Weight of a part: %d to %d, error %d", low, high, e)
	}
	if origins, e := find.Origins(l, 0, 10000007); len(origins) != 100 || e != api.OK {
		t.Errorf("Origins: %v, error %d", origins, e)
	}
	if chain, e := find.Chain(l, 0, 10, 10000003); len(chain) != 100 || e != api.OK {
		t.Errorf("Chain: %v, error %d", chain, e)
	}
	l[199].Weight, l[199].Kind, l[199].Count, l[199].Parcel = api.Span{Low: 100000, High: 100000}, api.ReportWeighed, 0, heap
	if c, is, e := find.Conflict(l, 0); !is || e != api.OK {
		t.Errorf("Conflict: %+v, %v, error %d", c, is, e)
	} else if ok, e := find.CheckConflict(l, 0, c); !ok || e != api.OK {
		t.Errorf("CheckConflict of %+v: %v, error %d", c, ok, e)
	}
}
