package cargo_test

import (
	"math/rand/v2"
	"slices"
	"testing"

	"lagan/api"
	"lagan/cargo"
)

func idsOf(l []api.Paper) []int {
	var ids []int
	for _, x := range l {
		ids = append(ids, x.Id)
	}
	return ids
}

// P1.1, A3: the last paper that counts, by its place in the file, and totals of what is there alone.
func TestPackagesAndTotals(t *testing.T) {
	l := file(t,
		"9 0 package 1 5 0 a oil 1 1 1 1",
		"8 0 package 1 2 0 a oil 1 1 1 1",
		"7 0 total 1 5 1 0 9",
		"6 0 total 1 3 1 0 9",
		"5 0 total 2 0 1 0 9",
		"4 1 package 1 5 2 b tin 2 2 2 2",
		"3 1 total 1 0 2 0 9",
		"2 1 package 2 3 0 a oil 1 1 1 1",
		"10 2 total 1 5 2 0 9",
		"1 3 void 4",
		"11 4 void 9",
		"12 5 void 10",
		"13 5 void 3",
		"14 6 package 1 5 0 c tin 3 3 3 3",
	)
	for _, c := range []struct {
		known, loss  int
		packs, total []int
	}{
		{-1, 1, nil, nil}, {0, 1, []int{8, 9}, []int{7}}, {1, 1, []int{8, 4}, []int{3, 7}}, {2, 1, []int{8, 4}, []int{3, 10}},
		{3, 1, []int{8, 9}, []int{3, 10}}, {4, 1, []int{8}, []int{3}}, {5, 1, []int{8}, nil}, {6, 1, []int{8, 14}, []int{7}},
		{0, 2, nil, []int{5}}, {1, 2, []int{2}, []int{5}}, {9, 3, nil, nil}, {9, 0, nil, nil}, {9, 21, nil, nil}, {9, -1, nil, nil},
	} {
		same(t, "Packages", idsOf(cargo.Packages(l, c.known, c.loss)), c.packs)
		same(t, "Totals", idsOf(cargo.Totals(l, c.known, c.loss)), c.total)
	}
	same(t, "Packages", cargo.Packages(l, 6, 1), []api.Paper{l[1], l[13]})
	bad := append(slices.Clone(l), l[0])
	same(t, "Packages of no file", cargo.Packages(bad, 6, 1), nil)
	same(t, "Totals of no file", cargo.Totals(bad, 6, 1), nil)
	for _, c := range []struct {
		known, pack, paper, total int
	}{{0, 5, 9, 7}, {1, 5, 4, 7}, {2, 5, 4, 10}, {4, 5, 0, 0}, {6, 5, 14, 7}, {6, 3, 0, 0}, {1, 0, 0, 3}, {0, 0, 0, 0}, {9, 201, 0, 0}, {9, -1, 0, 0}, {9, 2, 8, 0}} {
		x, e := cargo.PaperOf(l, c.known, 1, c.pack)
		if x.Id != c.paper || (e == api.ErrNone) != (c.paper == 0) || c.paper == 0 && x != (api.Paper{}) {
			t.Errorf("PaperOf(%d, %d): %v, error %d", c.known, c.pack, x, e)
		}
		x, e = cargo.TotalOf(l, c.known, 1, c.pack)
		if x.Id != c.total || (e == api.ErrNone) != (c.total == 0) || c.total == 0 && x != (api.Paper{}) {
			t.Errorf("TotalOf(%d, %d): %v, error %d", c.known, c.pack, x, e)
		}
	}
}

// P1.1, A4: also where the manifest is no tree.
func TestInsideAndLeaves(t *testing.T) {
	l := sample(t)
	same(t, "Inside", cargo.Inside(l, 0, 1, 2), []int{3, 4})
	same(t, "Inside", cargo.Inside(l, 0, 1, 0), []int{1, 2})
	same(t, "Inside", cargo.Inside(l, 0, 1, 1), nil)
	same(t, "Inside", cargo.Inside(l, 0, 1, -1), nil)
	same(t, "Inside", cargo.Inside(l, 0, 2, 0), nil)
	same(t, "Inside", cargo.Inside(l, 0, 0, 0), nil)
	same(t, "Inside", cargo.Inside(append(l, l[0]), 0, 1, 0), nil)
	same(t, "Leaves", cargo.Leaves(l, 0, 1), []int{1, 3, 4})
	same(t, "Leaves", cargo.Leaves(l, 0, 21), nil)
	same(t, "Leaves", cargo.Leaves(append(l, l[0]), 0, 1), nil)
	odd := file(t,
		"1 0 package 1 9 6 a oil 1 1 1 1", "2 0 package 1 5 6 a oil 1 1 1 1", "3 0 package 1 3 4 a oil 1 1 1 1", "4 0 package 1 4 3 a oil 1 1 1 1",
		"5 0 total 1 9 1 0 9", "6 0 total 1 5 0 0 9", "7 0 package 1 10 0 a oil 1 1 1 1", "8 0 total 1 6 0 0 0", "9 1 void 5", "10 1 total 1 10 2 0 0")
	same(t, "Inside", cargo.Inside(odd, 0, 1, 6), []int{5, 9})
	same(t, "Inside", cargo.Inside(odd, 0, 1, 3), []int{4})
	same(t, "Leaves", cargo.Leaves(odd, 0, 1), []int{5, 10})
	same(t, "Leaves", cargo.Leaves(odd, 1, 1), []int{5, 9})
}

// P1.1, A4: where the manifest is no tree, and where it is one.
func TestPathAndMissing(t *testing.T) {
	l := sample(t, "8 6 package 1 5 4 q tin 1 1 1 7", "9 6 total 1 1 40 0 9999")
	for pack, want := range map[int][]int{1: {1}, 2: {2}, 3: {2, 3}, 4: {2, 4}, 5: {2, 4, 5}} {
		got, e := cargo.Path(l, 6, 1, pack)
		same(t, "Path", got, want)
		if e != api.OK {
			t.Errorf("Path: error %d", e)
		}
	}
	for _, c := range []struct{ known, pack, want int }{{0, 0, 0}, {3, 0, 1}, {4, 0, 1}, {5, 0, 0}, {5, 2, 0}, {6, 1, 40}, {6, 4, 0}} {
		if n, e := cargo.Missing(l, c.known, 1, c.pack); n != c.want || e != api.OK {
			t.Errorf("Missing(%d, %d): %d, error %d", c.known, c.pack, n, e)
		}
	}
	if n, e := cargo.Missing(l, 0, 1, 5); n != 0 || e != api.ErrNone {
		t.Errorf("Missing: %d, error %d", n, e)
	}
	if n, e := cargo.Missing(nil, 0, 1, 0); n != 0 || e != api.OK {
		t.Errorf("Missing of nothing: %d, error %d", n, e)
	}
}

// P1.1: the Words say what a tree is.
func TestTree(t *testing.T) {
	for _, c := range []struct {
		what  string
		lines []string
		want  api.Errno
	}{
		{"a chain against the numbers", []string{"1 0 package 1 1 2 a oil 1 9 1 1", "2 0 package 1 2 3 a oil 1 9 1 1", "3 0 package 1 3 0 a oil 1 9 1 1"}, api.OK},
		{"in one that is not there", []string{"1 0 package 1 1 2 a oil 1 9 1 1"}, api.ErrTree},
		{"in one of another loss", []string{"1 0 package 1 1 2 a oil 1 9 1 1", "2 0 package 2 2 0 a oil 1 9 1 1"}, api.ErrTree},
		{"in one that was withdrawn", []string{"2 0 package 1 2 0 a oil 1 9 1 1", "1 0 package 1 1 2 a oil 1 9 1 1", "3 0 void 2"}, api.ErrTree},
		{"two in each other", []string{"1 0 package 1 1 2 a oil 1 9 1 1", "2 0 package 1 2 1 a oil 1 9 1 1"}, api.ErrTree},
		{"three in each other, and one in the ship", []string{"1 0 package 1 1 2 a oil 1 9 1 1", "2 0 package 1 2 3 a oil 1 9 1 1", "3 0 package 1 3 1 a oil 1 9 1 1", "4 0 package 1 4 0 a oil 1 9 1 1"}, api.ErrTree},
		{"one in two that are in each other", []string{"1 0 package 1 1 2 a oil 1 9 1 1", "2 0 package 1 2 3 a oil 1 9 1 1", "3 0 package 1 3 2 a oil 1 9 1 1"}, api.ErrTree},
		{"in each other, but amended", []string{"2 0 package 1 2 1 a oil 1 9 1 1", "1 0 package 1 1 2 a oil 1 9 1 1", "3 0 package 1 2 0 a oil 1 9 1 1"}, api.OK},
		{"as many as counted", []string{"1 0 package 1 1 0 a oil 1 9 1 1", "2 0 total 1 0 1 0 9"}, api.OK},
		{"more in the ship than counted", []string{"1 0 package 1 1 0 a oil 1 9 1 1", "2 0 total 1 0 0 0 9"}, api.ErrTree},
		{"more in a package than counted", []string{"1 0 package 1 1 0 a oil 1 9 1 1", "2 0 package 1 2 1 a oil 1 9 1 1", "3 0 package 1 3 1 a oil 1 9 1 1", "4 0 total 1 1 1 0 9"}, api.ErrTree},
		{"more than an earlier total has", []string{"1 0 package 1 1 0 a oil 1 9 1 1", "3 0 total 1 0 0 0 9", "2 0 total 1 0 1 0 9"}, api.OK},
		{"a total of a package that is not there", []string{"1 0 package 1 1 0 a oil 1 9 1 1", "2 0 total 1 2 0 0 0"}, api.OK},
	} {
		l := file(t, c.lines...)
		if p, e := cargo.Path(l, 0, 1, 1); e != c.want || (len(p) == 0) != (e != api.OK) {
			t.Errorf("%s: Path: %v, error %d, want %d", c.what, p, e, c.want)
		}
		if n, e := cargo.Missing(l, 0, 1, 0); n != 0 || e != c.want {
			t.Errorf("%s: Missing: %d, error %d, want %d", c.what, n, e, c.want)
		}
	}
	if n, e := cargo.Missing(file(t, "1 0 package 1 1 2 a oil 1 9 1 1", "2 0 total 1 0 3 3 9"), 0, 1, 0); n != 0 || e != api.ErrTree {
		t.Errorf("Missing: %d, error %d", n, e)
	}
}

// P1.1, A3 and A4: random manifests against the model.
func TestManifestsByModel(t *testing.T) {
	r := rand.New(rand.NewPCG(3, 1))
	for range 1500 {
		l := randomFile(t, r, 6)
		kept := slices.Clone(l)
		known, loss := r.IntN(5)-1, 1+r.IntN(8)/7
		m := modelOf(l, known, loss)
		var packs, totals []api.Paper
		var leaves []int
		for _, p := range m.things() {
			if x, is := m.papers[p]; is {
				packs = append(packs, x)
				if len(m.inside(p)) == 0 && m.totals[p].Count == 0 {
					leaves = append(leaves, p)
				}
			}
			if x, is := m.totals[p]; is {
				totals = append(totals, x)
			}
		}
		same(t, "Packages", cargo.Packages(l, known, loss), packs)
		same(t, "Totals", cargo.Totals(l, known, loss), totals)
		same(t, "Leaves", cargo.Leaves(l, known, loss), leaves)
		for pack := range 7 {
			same(t, "Inside", cargo.Inside(l, known, loss, pack), m.inside(pack))
			checkOne(t, l, known, loss, pack, m)
		}
		for _, x := range [][]api.Paper{cargo.Packages(l, known, loss), cargo.Totals(l, known, loss), cargo.Counting(l, known)} {
			clear(x)
		}
		same(t, "the file behind it", l, kept)
		if t.Failed() {
			t.Fatalf("of %v, as known at %d, loss %d", l, known, loss)
		}
	}
}

// checkOne holds what is said of one package, or of the ship, against the model.
func checkOne(t *testing.T, l []api.Paper, known, loss, pack int, m model) {
	t.Helper()
	_, is := m.papers[pack]
	x, e := cargo.PaperOf(l, known, loss, pack)
	if x != m.papers[pack] || (e == api.OK) != is || !is && e != api.ErrNone {
		t.Errorf("PaperOf %d: %v, error %d", pack, x, e)
	}
	_, has := m.totals[pack]
	x, e = cargo.TotalOf(l, known, loss, pack)
	if x != m.totals[pack] || (e == api.OK) != has || !has && e != api.ErrNone {
		t.Errorf("TotalOf %d: %v, error %d", pack, x, e)
	}
	want := api.OK
	var path []int
	missing := 0
	switch {
	case pack != 0 && !is:
		want = api.ErrNone
	case !m.isTree():
		want = api.ErrTree
	default:
		missing = m.missing(pack)
		for p := pack; p != 0; p = m.papers[p].In {
			path = append([]int{p}, path...)
		}
	}
	if n, e := cargo.Missing(l, known, loss, pack); n != missing || e != want {
		t.Errorf("Missing %d: %d, error %d, want %d, error %d", pack, n, e, missing, want)
	}
	if pack == 0 {
		want = api.ErrNone
	}
	p, e := cargo.Path(l, known, loss, pack)
	same(t, "Path", p, path)
	if e != want {
		t.Errorf("Path %d: error %d, want %d", pack, e, want)
	}
}
