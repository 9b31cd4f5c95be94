package cargo_test

import (
	"math/rand/v2"
	"slices"
	"testing"

	"lagan/api"
	"lagan/cargo"
)

// nested is a package of at most 30 in another one, whose total allows 30 as well: the file's order is
// not that of the Ids.
func nested(t *testing.T, inner string) []api.Paper {
	return file(t, "5 0 package 1 1 0 a oil 1 30 1 1", "2 0 package 1 2 1 a oil "+inner+" 1 1", "1 0 total 1 1 1 0 30", "9 0 total 1 0 9 0 10000000")
}

// P1.1, A7: what is left out is gone through from the end of the file.
func TestLineage(t *testing.T) {
	l := sample(t)
	for _, c := range []struct {
		l           []api.Paper
		known, pack int
		upper       bool
		want        []int
	}{
		{l, 5, 1, false, []int{2, 7}}, {l, 5, 1, true, []int{1}}, {l, 0, 1, false, []int{1}}, {l, 3, 1, false, []int{1}},
		{l, 0, 4, true, []int{3, 5}}, {l, 0, 4, false, []int{3, 5}}, {l, 0, 3, false, []int{3}}, {l, 0, 3, true, []int{3}},
		{l, 0, 2, false, []int{2}}, {l, 0, 2, true, []int{2}},
		{nested(t, "1 90"), 0, 2, true, []int{5}}, {nested(t, "1 90"), 0, 2, false, nil}, {nested(t, "1 30"), 0, 2, true, []int{5}},
		{nested(t, "1 29"), 0, 2, true, []int{2}}, {nested(t, "7 30"), 0, 1, false, []int{2}}, {nested(t, "1 100000"), 0, 1, false, nil},
		{file(t, "1 0 package 1 1 0 a oil 1 100000 1 1"), 0, 1, true, nil}, {file(t, "1 0 package 1 1 0 a oil 1 99999 1 1"), 0, 1, true, []int{1}},
		{file(t, "1 0 package 1 1 0 a oil 2 99999 1 1"), 0, 1, false, []int{1}},
	} {
		got, e := cargo.Lineage(c.l, c.known, 1, c.pack, c.upper)
		same(t, "Lineage", got, c.want)
		if e != api.OK {
			t.Errorf("Lineage: error %d", e)
		}
	}
}

// P1.1, A7: lists that are accepted, and others.
func TestCheckLineage(t *testing.T) {
	l := sample(t)
	for _, c := range []struct {
		known, pack int
		upper       bool
		end         int
		ids         []int
		want        bool
	}{
		{5, 1, false, 110, []int{2, 7}, true}, {5, 1, false, 111, []int{2, 7}, false}, {5, 1, false, 109, []int{2, 7}, true}, {5, 1, false, -1 << 63, []int{2, 7}, true},
		{5, 1, false, 110, []int{7, 2}, false}, {5, 1, false, 110, []int{2, 2, 7}, false}, {5, 1, false, 110, []int{2, 7, 7}, false},
		{5, 1, false, 110, []int{2, 6}, false}, {5, 1, false, 110, []int{2, 6, 7}, false}, {5, 1, false, 1, []int{6}, false}, {5, 1, false, 1, []int{8}, false},
		{5, 1, false, 1, []int{0}, false}, {5, 1, false, 1, []int{-3, 2, 7}, false}, {5, 1, false, 110, []int{1, 2, 3, 4, 5, 7}, true},
		{3, 1, false, 1, []int{7}, false}, {3, 1, false, 1, []int{6}, true}, {5, 1, false, 110, []int{7}, false}, {5, 1, false, 110, []int{2}, false},
		{5, 1, false, 100, []int{1}, true}, {5, 1, false, 101, []int{1}, false}, {5, 1, false, 1, nil, true}, {5, 1, false, 2, nil, false},
		{5, 1, true, 200, []int{1}, true}, {5, 1, true, 199, []int{1}, false}, {5, 1, true, 201, []int{1}, true}, {5, 1, true, 200, nil, false},
		{5, 1, true, 258, []int{7}, true}, {5, 1, true, 257, []int{7}, false}, // two things are in the package 2
		{5, 1, true, 99999, nil, false}, {5, 1, true, 100000, nil, true}, {5, 1, true, 1<<63 - 1, nil, true}, {0, 4, true, 30, []int{3, 5}, true}, {0, 4, true, 30, []int{5}, false},
		{0, 4, true, 39, []int{5}, true}, {0, 4, true, 38, []int{5}, false},
	} {
		if ok, e := cargo.CheckLineage(l, c.known, 1, c.pack, c.upper, c.end, c.ids); ok != c.want || e != api.OK {
			t.Errorf("CheckLineage(%d, %d, %v, %d, %v): %v, error %d", c.known, c.pack, c.upper, c.end, c.ids, ok, e)
		}
	}
}

// P1.1, A7: papers that contradict each other show nothing together, but some of them do.
func TestCheckLineageInDoubt(t *testing.T) {
	l := nested(t, "40 90")
	for _, c := range []struct {
		ids  []int
		want bool
	}{{[]int{5}, true}, {[]int{1}, true}, {[]int{1, 5}, true}, {[]int{1, 2, 5, 9}, false}, {[]int{2, 5}, false}, {[]int{1, 2}, false}, {[]int{1, 2, 5}, false}, {[]int{2}, false}} {
		if ok, e := cargo.CheckLineage(l, 0, 1, 2, true, 30, c.ids); ok != c.want || e != api.OK {
			t.Errorf("CheckLineage(%v): %v, error %d", c.ids, ok, e)
		}
		if ok, e := cargo.CheckLineage(l, 0, 1, 2, false, 1, c.ids); ok != (c.want || len(c.ids) == 1) || e != api.OK {
			t.Errorf("CheckLineage(%v): %v, error %d", c.ids, ok, e)
		}
	}
}

// P1.1, A8: what is left out is gone through from the end of the file.
func TestDoubt(t *testing.T) {
	for _, c := range []struct {
		what string
		l    []api.Paper
		want []int
	}{
		{"the example", sample(t, "8 6 package 1 2 0 x1 chests 10 20 1 8"), []int{5, 8}},
		{"either of two", nested(t, "40 90"), []int{2, 5}},
		{"none", nested(t, "30 90"), nil},
		{"three", file(t, "3 0 total 1 0 2 0 99", "2 0 package 1 1 0 a oil 50 60 1 1", "1 0 package 1 2 0 a oil 50 60 1 1"), []int{1, 2, 3}},
		{"a total alone", file(t, "3 0 total 1 0 2 0 1", "2 0 package 1 1 0 a oil 50 60 1 1"), []int{3}},
		{"what is missing", file(t, "3 0 total 1 0 2 100061 900000", "2 0 package 1 1 0 a oil 50 60 1 1"), []int{2, 3}},
		{"the papers of this loss", file(t, "2 0 package 1 1 0 a oil 50 60 1 1", "3 0 total 1 0 1 0 9", "4 0 total 1 0 1 0 99"), nil},
	} {
		ids, is, e := cargo.Doubt(c.l, 9, 1)
		same(t, c.what, ids, c.want)
		if is != (len(c.want) > 0) || e != api.OK {
			t.Errorf("%s: %v, error %d", c.what, is, e)
		}
		if ok, e := cargo.CheckDoubt(c.l, 9, 1, ids); ok != is || e != api.OK {
			t.Errorf("%s: CheckDoubt(%v): %v, error %d", c.what, ids, ok, e)
		}
	}
}

// P1.1, A8: lists that are accepted, and others.
func TestCheckDoubt(t *testing.T) {
	l := sample(t, "8 6 package 1 2 0 x1 chests 10 20 1 8")
	for _, c := range []struct {
		known int
		ids   []int
		want  bool
	}{
		{6, []int{5, 8}, true}, {6, []int{8, 5}, false}, {6, []int{5}, false}, {6, []int{8}, false}, {6, nil, false}, {6, []int{5, 5, 8}, false}, {6, []int{5, 8, 8}, false},
		{6, []int{1, 5, 7, 8}, true}, {6, []int{2, 5, 8}, false}, {6, []int{5, 6, 8}, false}, {6, []int{5, 8, 9}, false}, {6, []int{0, 5, 8}, false}, {5, []int{5, 8}, false}, {5, []int{1, 2, 3, 4, 5, 7}, false},
	} {
		if ok, e := cargo.CheckDoubt(l, c.known, 1, c.ids); ok != c.want || e != api.OK {
			t.Errorf("CheckDoubt(%d, %v): %v, error %d", c.known, c.ids, ok, e)
		}
	}
	if ok, e := cargo.CheckDoubt(nil, 0, 1, nil); ok || e != api.OK {
		t.Errorf("CheckDoubt of nothing: %v, error %d", ok, e)
	}
}

// P1.1, A9: what a further paper changes.
func TestReached(t *testing.T) {
	l := sample(t)
	for _, c := range []struct {
		line string
		loss int
		want []int
	}{
		{"8 6 void 7", 1, []int{1}},
		{"8 6 void 6", 1, nil},
		{"8 6 void 5", 1, []int{4}},
		{"8 6 void 4", 1, []int{4}},
		{"8 6 void 1", 1, []int{1}},
		{"8 6 package 1 2 0 x1 chests 50 60 1 8", 1, []int{1, 2}},
		{"8 6 package 1 2 0 x1 chests 40 90 1 8", 1, []int{2}},
		{"8 6 package 1 2 0 x9 tin 50 90 2 9", 1, nil},
		{"8 6 package 1 1 0 x9 tin 110 200 2 9", 1, nil},
		{"8 6 package 1 5 4 q tin 9 20 1 7", 1, []int{5}},
		{"8 6 package 1 5 4 q tin 11 12 1 7", 1, []int{4, 5}},
		{"8 6 package 2 5 0 q tin 1 1 1 7", 1, nil},
		{"8 6 package 2 5 0 q tin 1 1 1 7", 2, []int{5}},
		{"8 6 package 1 1 0 ab? wool 120 200 2 7", 2, nil},
		{"8 6 package 1 200 1 q tin 1 1 1 7", 1, []int{200}},
	} {
		got, e := cargo.Reached(l, read(t, c.line)[0], c.loss)
		same(t, "Reached of "+c.line, got, c.want)
		if e != api.OK {
			t.Errorf("Reached of %s: error %d", c.line, e)
		}
	}
}

// P1.1, A9: the hour of knowledge is that of the paper.
func TestReachedAtItsHour(t *testing.T) {
	l := file(t, "1 0 package 1 1 0 a oil 1 9 1 1", "2 0 package 1 2 0 a oil 1 9 1 1", "3 4 void 1")
	x := read(t, "4 4 package 1 1 0 a oil 1 9 1 1")[0]
	got, e := cargo.Reached(l, x, 1)
	same(t, "Reached", got, []int{1})
	if e != api.OK {
		t.Errorf("Reached: error %d", e)
	}
}

// P1.1, A7 to A9, P1.3 and P1.4: against the model.
func TestProofsByModel(t *testing.T) {
	r := rand.New(rand.NewPCG(9, 1))
	doubts, lineages := 0, 0
	for range 1200 {
		l := randomFile(t, r, 5+r.IntN(2)*100000)
		known := r.IntN(4)
		m := modelOf(l, known, 1)
		if !m.isTree() {
			continue
		}
		_, is := m.narrowed()
		var want []int
		if !is {
			want = m.doubt()
			doubts++
		}
		ids, found, e := cargo.Doubt(l, known, 1)
		same(t, "Doubt", ids, want)
		if found == is || e != api.OK {
			t.Errorf("Doubt: %v, error %d", found, e)
		}
		if found {
			checkNoneLess(t, ids, func(ids []int) bool {
				ok, e := cargo.CheckDoubt(l, known, 1, ids)
				return ok && e == api.OK
			})
		}
		for _, p := range m.packs() {
			if is {
				lineages++
				checkLineages(t, l, known, p, m)
			}
		}
		for range 5 {
			checkSome(t, r, l, known, m)
		}
		if t.Failed() {
			t.Fatalf("of %v, as known at %d", l, known)
		}
	}
	if doubts < 100 || lineages < 500 {
		t.Errorf("%d doubts, %d lineages", doubts, lineages)
	}
}

// checkNoneLess checks that ids are accepted, and not without any one of them.
func checkNoneLess(t *testing.T, ids []int, accepts func(ids []int) bool) {
	t.Helper()
	if !accepts(ids) {
		t.Errorf("%v are not accepted", ids)
	}
	for i := range ids {
		if fewer := slices.Delete(slices.Clone(ids), i, i+1); accepts(fewer) {
			t.Errorf("%v are accepted, but %v as well", ids, fewer)
		}
	}
}

func checkLineages(t *testing.T, l []api.Paper, known, pack int, m model) {
	t.Helper()
	s, _ := cargo.Weigh(l, known, 1, pack)
	for _, upper := range []bool{false, true} {
		end := s.Low
		if upper {
			end = s.High
		}
		ids, e := cargo.Lineage(l, known, 1, pack, upper)
		same(t, "Lineage", ids, m.lineage(pack, upper))
		if e != api.OK {
			t.Errorf("Lineage: error %d", e)
		}
		checkNoneLess(t, ids, func(ids []int) bool {
			ok, e := cargo.CheckLineage(l, known, 1, pack, upper, end, ids)
			return ok && e == api.OK
		})
	}
}

// checkSome holds what is said of some Ids, most of which are of the manifest, against the model.
func checkSome(t *testing.T, r *rand.Rand, l []api.Paper, known int, m model) {
	t.Helper()
	var ids []int
	for _, x := range m.rows {
		if r.IntN(3) > 0 {
			ids = append(ids, x.Id)
		}
	}
	slices.Sort(ids)
	if r.IntN(8) == 0 {
		ids = append(ids, l[r.IntN(len(l))].Id)
	}
	ends, is := m.by(ids).narrowed()
	if ok, e := cargo.CheckDoubt(l, known, 1, ids); ok != (m.checks(ids) && !is) || e != api.OK {
		t.Errorf("CheckDoubt(%v): %v, error %d", ids, ok, e)
	}
	for _, p := range m.packs() {
		for end := -1; end <= 1; end++ {
			if ok, e := cargo.CheckLineage(l, known, 1, p, false, ends[p].Low+end, ids); ok != (m.checks(ids) && is && end <= 0) || e != api.OK {
				t.Errorf("CheckLineage(%d, low, %d, %v): %v, error %d", p, ends[p].Low+end, ids, ok, e)
			}
			if ok, e := cargo.CheckLineage(l, known, 1, p, true, ends[p].High+end, ids); ok != (m.checks(ids) && is && end >= 0) || e != api.OK {
				t.Errorf("CheckLineage(%d, high, %d, %v): %v, error %d", p, ends[p].High+end, ids, ok, e)
			}
		}
	}
}

// P1.4: what CheckLineage accepts holds of the ends, and what CheckDoubt accepts of the papers.
func TestWhatIsAccepted(t *testing.T) {
	r := rand.New(rand.NewPCG(10, 1))
	accepted := 0
	for range 1500 {
		l := randomFile(t, r, 6)
		m := modelOf(l, 3, 1)
		papers, e := cargo.Weights(l, 3, 1)
		if e == api.ErrTree {
			continue
		}
		var ids []int
		for _, x := range m.rows {
			if r.IntN(2) == 0 {
				ids = append(ids, x.Id)
			}
		}
		slices.Sort(ids)
		if ok, _ := cargo.CheckDoubt(l, 3, 1, ids); ok && e != api.ErrDoubt {
			t.Fatalf("CheckDoubt accepts %v of %v", ids, l)
		}
		for _, x := range papers {
			end := 1 + r.IntN(7)
			low, _ := cargo.CheckLineage(l, 3, 1, x.Pack, false, end, ids)
			high, _ := cargo.CheckLineage(l, 3, 1, x.Pack, true, end, ids)
			if low && x.Weight.Low < end || high && x.Weight.High > end {
				t.Fatalf("CheckLineage accepts %v of %d, %v, for %v of %v", ids, end, x, m, l)
			}
			if low || high {
				accepted++
			}
		}
	}
	if accepted < 300 {
		t.Errorf("only %d", accepted)
	}
}

// P1.1, A9: against the ends before and behind.
func TestReachedByModel(t *testing.T) {
	r := rand.New(rand.NewPCG(11, 1))
	errors := map[api.Errno]int{}
	for range 3000 {
		l := randomFile(t, r, 6)
		x := randomPaper(r, l, 6)
		x.Id, x.Known = 50, 2+r.IntN(2)
		want, e := reachedByModel(l, x)
		got, g := cargo.Reached(l, x, 1)
		same(t, "Reached", got, want)
		if g != e || t.Failed() {
			t.Fatalf("Reached of %v behind %v: error %d, want %d", x, l, g, e)
		}
		errors[e]++
	}
	for _, e := range []api.Errno{api.OK, api.ErrTwice, api.ErrTime, api.ErrNone, api.ErrTree, api.ErrDoubt} {
		if errors[e] < 20 {
			t.Errorf("the error %d only %d times", e, errors[e])
		}
	}
}

func reachedByModel(l []api.Paper, x api.Paper) ([]int, api.Errno) {
	longer := append(slices.Clone(l), x)
	if _, e := cargo.Check(longer); e != api.OK {
		return nil, e
	}
	var ends [2]map[int]api.Span
	for i, l := range [][]api.Paper{l, longer} {
		m := modelOf(l, x.Known, 1)
		if !m.isTree() {
			return nil, api.ErrTree
		}
		is := false
		if ends[i], is = m.narrowed(); !is {
			return nil, api.ErrDoubt
		}
	}
	var out []int
	for pack := range 10 {
		if ends[0][pack] != ends[1][pack] {
			out = append(out, pack)
		}
	}
	return out, api.OK
}
