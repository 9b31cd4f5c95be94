package cargo_test

import (
	"fmt"
	"maps"
	"math/rand/v2"
	"slices"
	"testing"

	"lagan/api"
	"lagan/cargo"
)

// P1.1, A5: the examples, and the edges of the Words.
func TestWeigh(t *testing.T) {
	ship := "9 0 package 1 1 0 a oil 10 90 1 1"
	for _, c := range []struct {
		what      string
		lines     []string
		pack      int
		low, high int // 0 to 0 for ErrDoubt
	}{
		{"alone", []string{ship}, 1, 10, 90},
		{"missing ones weigh at least 1 each", []string{ship, "8 0 total 1 0 3 0 50"}, 1, 10, 48},
		{"missing ones weigh at most 100000 each", []string{ship, "8 0 total 1 0 3 200020 300000"}, 1, 20, 90},
		{"just not too much", []string{ship, "8 0 total 1 0 3 200090 300000"}, 1, 90, 90},
		{"too much", []string{ship, "8 0 total 1 0 3 200091 300000"}, 1, 0, 0},
		{"just not too little", []string{ship, "8 0 total 1 0 3 0 12"}, 1, 10, 10},
		{"too little", []string{ship, "8 0 total 1 0 3 0 11"}, 1, 0, 0},
		{"nothing is missing", []string{ship, "8 0 total 1 0 1 20 30"}, 1, 20, 30},
		{"nothing is missing, too much", []string{ship, "8 0 total 1 0 1 91 99"}, 1, 0, 0},
		{"nothing is missing, too little", []string{ship, "8 0 total 1 0 1 0 9"}, 1, 0, 0},
		{"at least what is missing in it", []string{ship, "8 0 total 1 1 40 0 99"}, 1, 40, 90},
		{"at least the total", []string{ship, "8 0 total 1 1 40 60 99"}, 1, 60, 90},
		{"more than it weighs is missing in it", []string{"9 0 package 1 1 0 a oil 1 39 1 1", "8 0 total 1 1 40 0 99"}, 1, 0, 0},
		{"an empty one with a total", []string{ship, "8 0 total 1 1 0 0 99"}, 1, 10, 90},
		{"an empty one that is not empty", []string{ship, "8 0 total 1 1 0 1 99"}, 1, 0, 0},
		{"at least what is in it", []string{ship, "8 0 package 1 2 1 a oil 20 30 1 1", "7 0 package 1 3 1 a oil 25 90 1 1"}, 1, 45, 90},
		{"as much as it leaves room for", []string{ship, "8 0 package 1 2 1 a oil 20 30 1 1", "7 0 package 1 3 1 a oil 25 90 1 1"}, 3, 25, 70},
		{"and for what is missing", []string{ship, "8 0 package 1 2 1 a oil 20 30 1 1", "7 0 package 1 3 1 a oil 25 90 1 1", "6 0 total 1 1 5 0 9999"}, 3, 25, 67},
		{"missing ones and the total around one", []string{ship, "8 0 package 1 2 1 a oil 20 30 1 1", "7 0 package 1 3 1 a oil 1 90 1 1", "6 0 total 1 1 2 80 9999"}, 3, 50, 70},
		{"through two", []string{ship, "8 0 package 1 2 1 a oil 1 200 1 1", "7 0 package 1 3 2 a oil 1 200 1 1"}, 3, 1, 90},
		{"through two, from within", []string{"9 0 package 1 1 0 a oil 1 90 1 1", "8 0 package 1 2 1 a oil 1 200 1 1", "7 0 package 1 3 2 a oil 33 200 1 1"}, 1, 33, 90},
		{"what is around it is no less heavy", []string{ship, "8 0 package 1 2 1 a oil 1 50 1 1", "7 0 total 1 0 1 90 90"}, 2, 1, 50},
		{"the total of one that is not there", []string{ship, "8 0 total 1 2 0 1 1"}, 1, 10, 90},
		{"the total of another ship", []string{ship, "8 0 total 2 0 0 1 1"}, 1, 10, 90},
	} {
		want := api.OK
		if c.high == 0 {
			want = api.ErrDoubt
		}
		l := file(t, c.lines...)
		if s, e := cargo.Weigh(l, 0, 1, c.pack); s != (api.Span{Low: c.low, High: c.high}) || e != want {
			t.Errorf("%s: %v, error %d, want %d to %d, error %d", c.what, s, e, c.low, c.high, want)
		}
		ids, is, e := cargo.Doubt(l, 0, 1)
		if is != (want == api.ErrDoubt) || e != api.OK || (len(ids) == 0) != !is {
			t.Errorf("%s: Doubt: %v, %v, error %d", c.what, ids, is, e)
		}
	}
	l := sample(t)
	for _, c := range []struct{ known, pack, low, high int }{
		{0, 3, 10, 20}, {0, 4, 10, 30}, {0, 2, 50, 90}, {0, 1, 100, 200}, {2, 1, 100, 200}, {3, 1, 100, 200}, {4, 1, 100, 200}, {5, 1, 110, 200}, {5, 2, 50, 90},
	} {
		if s, e := cargo.Weigh(l, c.known, 1, c.pack); s != (api.Span{Low: c.low, High: c.high}) || e != api.OK {
			t.Errorf("Weigh(%d, %d): %v, error %d", c.known, c.pack, s, e)
		}
	}
}

// P1.1, A5: without a package there may be a doubt all the same.
func TestWeightsOfNothing(t *testing.T) {
	for line, want := range map[string]api.Errno{
		"1 0 total 1 0 0 0 9": api.OK, "1 0 total 1 0 0 1 9": api.ErrDoubt, "1 0 total 1 0 2 0 1": api.ErrDoubt, "1 0 total 1 0 2 2 2": api.OK,
		"1 0 total 1 0 2 200001 900000": api.ErrDoubt, "1 0 total 1 0 2 200000 900000": api.OK, "1 0 total 2 0 0 1 9": api.OK, "1 0 total 1 1 0 1 9": api.OK,
	} {
		l := file(t, line)
		if w, e := cargo.Weights(l, 0, 1); len(w) != 0 || e != want {
			t.Errorf("%s: Weights: %v, error %d, want %d", line, w, e, want)
		}
		if ok, e := cargo.CheckCompletion(l, 0, 1, nil); ok != (want == api.OK) || e != api.OK {
			t.Errorf("%s: CheckCompletion: %v, error %d", line, ok, e)
		}
		ids, is, e := cargo.Doubt(l, 0, 1)
		if is != (want != api.OK) || e != api.OK || is && !slices.Equal(ids, []int{1}) {
			t.Errorf("%s: Doubt: %v, %v, error %d", line, ids, is, e)
		}
	}
}

// P1.1, A6: lists that are completions, and others.
func TestCheckCompletion(t *testing.T) {
	l := sample(t)
	good := []api.Weighed{{Pack: 1, Weight: 150}, {Pack: 2, Weight: 60}, {Pack: 3, Weight: 15}, {Pack: 4, Weight: 20}}
	heavy := file(t, "1 0 package 1 1 0 a oil 1 50 1 1", "2 0 package 1 2 1 a oil 1 90 1 1", "3 0 total 1 1 3 0 90", "4 1 total 1 1 2 200 300")
	for _, c := range []struct {
		what  string
		l     []api.Paper
		known int
		c     []api.Weighed
		want  bool
	}{
		{"one", l, 0, good, true},
		{"one with a total of the ship", l, 5, good, true},
		{"a package less", l, 0, good[:3], false},
		{"a package more", l, 0, append(slices.Clone(good), api.Weighed{Pack: 5, Weight: 1}), false},
		{"a package twice", l, 0, append(slices.Clone(good), good[3]), false},
		{"none", l, 0, nil, false},
		{"another order", l, 0, []api.Weighed{good[1], good[0], good[2], good[3]}, false},
		{"another package", l, 0, []api.Weighed{good[0], good[1], good[2], {Pack: 5, Weight: 20}}, false},
		{"too light", l, 0, []api.Weighed{{Pack: 1, Weight: 99}, good[1], good[2], good[3]}, false},
		{"just not too light", l, 0, []api.Weighed{{Pack: 1, Weight: 100}, good[1], good[2], good[3]}, true},
		{"just not too heavy", l, 0, []api.Weighed{{Pack: 1, Weight: 200}, good[1], good[2], good[3]}, true},
		{"too heavy", l, 0, []api.Weighed{{Pack: 1, Weight: 201}, good[1], good[2], good[3]}, false},
		{"much too heavy", l, 0, []api.Weighed{{Pack: 1, Weight: 1<<63 - 1}, good[1], {Pack: 3, Weight: -1 << 63}, good[3]}, false},
		{"less than the total", l, 0, []api.Weighed{good[0], good[1], {Pack: 3, Weight: 10}, {Pack: 4, Weight: 19}}, false},
		{"just the total", l, 0, []api.Weighed{good[0], good[1], {Pack: 3, Weight: 10}, {Pack: 4, Weight: 30}}, true},
		{"more than the total", l, 0, []api.Weighed{good[0], good[1], {Pack: 3, Weight: 11}, {Pack: 4, Weight: 30}}, false},
		{"less than the ship's total", l, 5, []api.Weighed{{Pack: 1, Weight: 139}, good[1], good[2], good[3]}, false},
		{"just the ship's total", l, 5, []api.Weighed{{Pack: 1, Weight: 140}, good[1], good[2], good[3]}, true},
		{"the missing one weighs the rest", l, 3, []api.Weighed{{Pack: 1, Weight: 139}, good[1], good[2], good[3]}, true},
		{"the missing one weighs 1", l, 3, []api.Weighed{{Pack: 1, Weight: 199}, good[1], good[2], good[3]}, true},
		{"the missing one weighs nothing", l, 3, []api.Weighed{{Pack: 1, Weight: 200}, good[1], good[2], good[3]}, false},
		{"as heavy as what is in it, with missing ones", heavy, 0, []api.Weighed{{Pack: 1, Weight: 50}, {Pack: 2, Weight: 48}}, true},
		{"lighter than it", heavy, 0, []api.Weighed{{Pack: 1, Weight: 50}, {Pack: 2, Weight: 49}}, false},
		{"lighter than the total of it", heavy, 1, []api.Weighed{{Pack: 1, Weight: 50}, {Pack: 2, Weight: 49}}, false},
	} {
		if ok, e := cargo.CheckCompletion(c.l, c.known, 1, c.c); ok != c.want || e != api.OK {
			t.Errorf("%s: %v, error %d", c.what, ok, e)
		}
	}
	if ok, e := cargo.CheckCompletion(nil, 0, 1, nil); !ok || e != api.OK {
		t.Errorf("nothing of nothing: %v, error %d", ok, e)
	}
}

// P1.1, A6: the package has the weight that is asked for.
func TestCompletion(t *testing.T) {
	l := sample(t)
	for _, c := range []struct {
		known, pack, weight int
		want                bool
	}{
		{0, 4, 30, true}, {0, 4, 31, false}, {0, 4, 10, true}, {0, 4, 9, false}, {0, 4, 0, false}, {0, 4, -1 << 63, false}, {0, 4, 1<<63 - 1, false},
		{5, 1, 110, true}, {5, 1, 109, false}, {5, 1, 200, true}, {5, 1, 201, false}, {5, 2, 50, true}, {5, 2, 90, true}, {3, 1, 100, true},
	} {
		got, is, e := cargo.Completion(l, c.known, 1, c.pack, c.weight)
		if is != c.want || e != api.OK || !is && len(got) != 0 {
			t.Errorf("Completion(%d, %d, %d): %v, %v, error %d", c.known, c.pack, c.weight, got, is, e)
			continue
		}
		if ok, e := cargo.CheckCompletion(l, c.known, 1, got); is && (!ok || e != api.OK || got[c.pack-1] != (api.Weighed{Pack: c.pack, Weight: c.weight})) {
			t.Errorf("Completion(%d, %d, %d): %v is none, error %d", c.known, c.pack, c.weight, got, e)
		}
	}
}

// P1.2: of several packages just as much is taken as a total asks for.
func TestCompletionOfExactTotals(t *testing.T) {
	for sum := 14; sum <= 61; sum++ {
		for missing := range 3 {
			l := file(t, "1 0 package 1 1 0 a oil 1 62 1 1", "2 0 package 1 2 1 a oil 5 20 1 1", "3 0 package 1 3 1 a oil 4 20 1 1", "4 0 package 1 4 1 a oil 5 20 1 1",
				fmt.Sprintf("5 0 total 1 1 %d %d %d", 3+missing, sum, sum))
			for pack := 1; pack <= 4; pack++ {
				s, e := cargo.Weigh(l, 0, 1, pack)
				if e != api.OK && sum-missing >= 14 && sum <= 60 {
					t.Fatalf("Weigh: error %d for %d", e, sum)
				}
				for w := s.Low; w <= s.High && e == api.OK; w++ {
					c, is, e := cargo.Completion(l, 0, 1, pack, w)
					if ok, g := cargo.CheckCompletion(l, 0, 1, c); !is || !ok || e != api.OK || g != api.OK {
						t.Fatalf("Completion(%d, %d) for %d: %v, %v, %v, errors %d, %d", pack, w, sum, c, is, ok, e, g)
					}
				}
			}
		}
	}
}

// P1.1, A5, A6, and P1.2: all completions of small manifests.
func TestWeightsByModel(t *testing.T) {
	r := rand.New(rand.NewPCG(4, 1))
	doubts, trees := 0, 0
	for range 1500 {
		l := randomFile(t, r, 6)
		known := r.IntN(4)
		m := modelOf(l, known, 1)
		if !m.isTree() {
			trees++
			continue
		}
		all := m.completions()
		if _, is := m.narrowed(); is != (len(all) > 0) {
			t.Fatalf("the model contradicts itself: %v, %v", m, all)
		}
		papers, e := cargo.Weights(l, known, 1)
		if len(all) == 0 {
			doubts++
			if len(papers) != 0 || e != api.ErrDoubt {
				t.Fatalf("Weights: %v, error %d", papers, e)
			}
		} else if e != api.OK || len(papers) != len(m.packs()) {
			t.Fatalf("Weights: %v, error %d", papers, e)
		}
		for i, p := range m.packs() {
			checkEnds(t, l, known, p, all)
			if want := m.papers[p]; len(all) > 0 {
				want.Weight, _ = cargo.Weigh(l, known, 1, p)
				if papers[i] != want {
					t.Errorf("Weights: %v, want %v", papers[i], want)
				}
			}
		}
		checkLists(t, r, l, known, m)
		if t.Failed() {
			t.Fatalf("of %v, as known at %d", l, known)
		}
	}
	if doubts < 100 || trees < 50 {
		t.Errorf("%d doubts, %d no trees", doubts, trees)
	}
}

// checkEnds holds the ends of a package, and completions with each weight, against all completions.
func checkEnds(t *testing.T, l []api.Paper, known, pack int, all []map[int]int) {
	t.Helper()
	has := map[int]bool{}
	for _, c := range all {
		has[c[pack]] = true
	}
	s, e := cargo.Weigh(l, known, 1, pack)
	if len(all) == 0 {
		if c, is, g := cargo.Completion(l, known, 1, pack, 1); s != (api.Span{}) || e != api.ErrDoubt || len(c) != 0 || is || g != api.ErrDoubt {
			t.Errorf("Weigh %d: %v, error %d; Completion: %v, %v, error %d", pack, s, e, c, is, g)
		}
		return
	}
	for w := -1; w <= 8; w++ {
		if has[w] != (s.Low <= w && w <= s.High) || e != api.OK {
			t.Errorf("Weigh %d: %v, error %d: but %d is %v", pack, s, e, w, has[w])
		}
		c, is, e := cargo.Completion(l, known, 1, pack, w)
		if is != has[w] || e != api.OK || !is && len(c) != 0 {
			t.Errorf("Completion(%d, %d): %v, %v, error %d", pack, w, c, is, e)
		}
		if !is {
			continue
		}
		weight := map[int]int{}
		for _, x := range c {
			weight[x.Pack] = x.Weight
		}
		if !slices.ContainsFunc(all, func(c map[int]int) bool { return maps.Equal(c, weight) }) || weight[pack] != w {
			t.Errorf("Completion(%d, %d): %v is none", pack, w, c)
		}
		if ok, e := cargo.CheckCompletion(l, known, 1, c); !ok || e != api.OK {
			t.Errorf("CheckCompletion of a Completion: %v, error %d", ok, e)
		}
	}
}

// checkLists holds CheckCompletion against the model.
func checkLists(t *testing.T, r *rand.Rand, l []api.Paper, known int, m model) {
	t.Helper()
	for range 30 {
		weight := map[int]int{}
		var c []api.Weighed
		for _, p := range m.packs() {
			s := m.papers[p].Weight
			weight[p] = s.Low + r.IntN(s.High-s.Low+1)
			c = append(c, api.Weighed{Pack: p, Weight: weight[p]})
		}
		if ok, e := cargo.CheckCompletion(l, known, 1, c); ok != m.isCompletion(weight) || e != api.OK {
			t.Errorf("CheckCompletion(%v): %v, error %d", c, ok, e)
		}
	}
}

// P1.1, A5, and P1.2: large weights, where missing packages can be too light.
func TestLargeWeights(t *testing.T) {
	r := rand.New(rand.NewPCG(5, 1))
	doubts := 0
	for range 1500 {
		l := randomFile(t, r, 100000)
		known := r.IntN(4)
		m := modelOf(l, known, 1)
		if !m.isTree() {
			continue
		}
		ends, is := m.narrowed()
		if !is {
			doubts++
		}
		for _, p := range m.packs() {
			s, e := cargo.Weigh(l, known, 1, p)
			if s != ends[p] || (e == api.OK) != is || !is && e != api.ErrDoubt {
				t.Fatalf("Weigh %d: %v, error %d, want %v: of %v", p, s, e, ends[p], l)
			}
			for _, w := range []int{s.Low - 1, s.Low, (s.Low + s.High) / 2, s.High, s.High + 1} {
				c, in, e := cargo.Completion(l, known, 1, p, w)
				ok, _ := cargo.CheckCompletion(l, known, 1, c)
				if want := is && s.Low <= w && w <= s.High; in != want || want && (!ok || e != api.OK || !slices.Contains(c, api.Weighed{Pack: p, Weight: w})) {
					t.Fatalf("Completion(%d, %d): %v, %v, %v, error %d: of %v", p, w, c, in, ok, e, l)
				}
			}
		}
	}
	if doubts < 50 {
		t.Errorf("%d doubts", doubts)
	}
}

// P1.5: a narrower paper makes no end wider.
func TestNarrower(t *testing.T) {
	r := rand.New(rand.NewPCG(6, 1))
	narrower := 0
	for range 1500 {
		l := randomFile(t, r, 6+r.IntN(3)*1000)
		before, e := cargo.Weights(l, 3, 1)
		if e != api.OK || len(before) == 0 {
			continue
		}
		x := cargo.Packages(l, 3, 1)[r.IntN(len(before))]
		x.Id, x.Known, x.Weight = 99, 3, randomSpan(r, x.Weight.Low, x.Weight.High)
		m, e := cargo.Append(l, x)
		if e != api.OK {
			t.Fatalf("Append: error %d", e)
		}
		after, e := cargo.Weights(m, 3, 1)
		if e != api.OK {
			continue
		}
		narrower++
		for i := range before {
			if after[i].Weight.Low < before[i].Weight.Low || after[i].Weight.High > before[i].Weight.High {
				t.Fatalf("%v became %v with %v behind %v", before[i], after[i], x, l)
			}
		}
	}
	if narrower < 300 {
		t.Errorf("only %d", narrower)
	}
}

// P1.6: what is in a package, by its low ends, and the ends of the package.
func TestWhatIsInIt(t *testing.T) {
	r := rand.New(rand.NewPCG(7, 1))
	sums := 0
	for range 1500 {
		l := randomFile(t, r, 10+r.IntN(2)*100000)
		papers, e := cargo.Weights(l, 3, 1)
		if e != api.OK {
			continue
		}
		for _, x := range papers {
			sum, e := cargo.Missing(l, 3, 1, x.Pack)
			for _, y := range papers {
				if y.In == x.Pack {
					sum += y.Weight.Low
					sums++
				}
			}
			if sum > x.Weight.High || sum > x.Weight.Low || e != api.OK {
				t.Fatalf("%v, but in it is %d: of %v", x, sum, l)
			}
		}
	}
	if sums < 300 {
		t.Errorf("only %d", sums)
	}
}

// P1.7: papers of other losses, and of later hours, change nothing.
func TestOthersAndLater(t *testing.T) {
	r := rand.New(rand.NewPCG(8, 1))
	for range 600 {
		l := randomFile(t, r, 6)
		known := r.IntN(4)
		var fewer []api.Paper
		gone := map[int]bool{}
		for _, x := range l {
			if x.Known > known || x.Loss == 2 || gone[x.Of] {
				gone[x.Id] = true
			} else {
				fewer = append(fewer, x)
			}
		}
		if i, e := cargo.Check(fewer); e != api.OK {
			t.Fatalf("Check: %d, error %d", i, e)
		}
		if a, b := allOf(l, known), allOf(fewer, known); a != b {
			t.Fatalf("%v, as known at %d:\n%s\nwithout the others:\n%s", l, known, a, b)
		}
	}
}

// allOf is what all functions say of the loss 1, as a text.
func allOf(l []api.Paper, known int) string {
	out := fmt.Sprint(cargo.Packages(l, known, 1), cargo.Totals(l, known, 1), cargo.Leaves(l, known, 1))
	add := func(v ...any) { out += fmt.Sprint(v...) }
	w, e := cargo.Weights(l, known, 1)
	d, is, f := cargo.Doubt(l, known, 1)
	add(w, e, d, is, f)
	for pack := range 6 {
		p, e := cargo.Path(l, known, 1, pack)
		n, f := cargo.Missing(l, known, 1, pack)
		low, g := cargo.Lineage(l, known, 1, pack, false)
		high, h := cargo.Lineage(l, known, 1, pack, true)
		c, is, i := cargo.Completion(l, known, 1, pack, 3)
		add(cargo.Inside(l, known, 1, pack), p, e, n, f, low, g, high, h, c, is, i)
	}
	return out
}

// R1: the deepest and the widest manifests.
func TestLargest(t *testing.T) {
	var deep, wide []api.Paper
	for i := range 200 {
		x := api.Paper{Id: i + 1, Kind: api.PaperPackage, Loss: 20, Pack: i + 1, In: i, Mark: "a", Goods: "oil", Weight: api.Span{Low: 1, High: 100000}, Pieces: 1, Owner: 1}
		deep = append(deep, x)
		x.In = 0
		wide = append(wide, x)
		if i < 100 {
			deep = append(deep, api.Paper{Id: 201 + i, Kind: api.PaperTotal, Loss: 20, Pack: 2 * i, Count: 2, Weight: api.Span{Low: 0, High: 100000}})
		}
	}
	if s, e := cargo.Weigh(deep, 0, 20, 200); s != (api.Span{Low: 1, High: 99900}) || e != api.OK {
		t.Errorf("deep: %v, error %d", s, e)
	}
	if s, e := cargo.Weigh(deep, 0, 20, 1); s != (api.Span{Low: 100, High: 99999}) || e != api.OK {
		t.Errorf("deep: %v, error %d", s, e)
	}
	if ids, e := cargo.Lineage(deep, 0, 20, 200, true); e != api.OK || len(ids) == 0 {
		t.Errorf("deep: %v, error %d", ids, e)
	}
	if p, e := cargo.Path(deep, 0, 20, 200); len(p) != 200 || e != api.OK || p[0] != 1 || p[199] != 200 {
		t.Errorf("deep: %v, error %d", p, e)
	}
	if s, e := cargo.Weigh(wide, 0, 20, 200); s != (api.Span{Low: 1, High: 100000}) || e != api.OK {
		t.Errorf("wide: %v, error %d", s, e)
	}
	c, is, e := cargo.Completion(wide, 0, 20, 7, 100000)
	if ok, g := cargo.CheckCompletion(wide, 0, 20, c); !is || !ok || e != api.OK || g != api.OK {
		t.Errorf("wide: %v, %v, %v, errors %d, %d", c, is, ok, e, g)
	}
	for i := range c {
		c[i].Weight = 100000
	}
	if ok, e := cargo.CheckCompletion(wide, 0, 20, c); !ok || e != api.OK {
		t.Errorf("wide and heavy: %v, error %d", ok, e)
	}
}
