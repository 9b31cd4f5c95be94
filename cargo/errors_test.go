package cargo_test

import (
	"slices"
	"testing"

	"lagan/api"
	"lagan/cargo"
)

// call is a function of A3 to A9 that returns an error: which errors of its own it has, and what it
// returns for a package.
type call struct {
	name              string
	none, tree, doubt bool
	do                func(l []api.Paper, known, loss, pack int) (empty bool, e api.Errno)
}

func calls() []call {
	return []call{
		{"PaperOf", true, false, false, func(l []api.Paper, known, loss, pack int) (bool, api.Errno) {
			x, e := cargo.PaperOf(l, known, loss, pack)
			return x == api.Paper{}, e
		}},
		{"Path", true, true, false, func(l []api.Paper, known, loss, pack int) (bool, api.Errno) {
			x, e := cargo.Path(l, known, loss, pack)
			return len(x) == 0, e
		}},
		{"Missing", true, true, false, func(l []api.Paper, known, loss, pack int) (bool, api.Errno) {
			x, e := cargo.Missing(l, known, loss, pack)
			return x == 0, e
		}},
		{"Weigh", true, true, true, func(l []api.Paper, known, loss, pack int) (bool, api.Errno) {
			x, e := cargo.Weigh(l, known, loss, pack)
			return x == api.Span{}, e
		}},
		{"Weights", false, true, true, func(l []api.Paper, known, loss, pack int) (bool, api.Errno) {
			x, e := cargo.Weights(l, known, loss)
			return len(x) == 0, e
		}},
		{"Completion", true, true, true, func(l []api.Paper, known, loss, pack int) (bool, api.Errno) {
			x, is, e := cargo.Completion(l, known, loss, pack, 5)
			return len(x) == 0 && !is, e
		}},
		{"CheckCompletion", false, true, false, func(l []api.Paper, known, loss, pack int) (bool, api.Errno) {
			is, e := cargo.CheckCompletion(l, known, loss, nil)
			return !is, e
		}},
		{"Lineage", true, true, true, func(l []api.Paper, known, loss, pack int) (bool, api.Errno) {
			x, e := cargo.Lineage(l, known, loss, pack, true)
			return len(x) == 0, e
		}},
		{"CheckLineage", true, true, false, func(l []api.Paper, known, loss, pack int) (bool, api.Errno) {
			is, e := cargo.CheckLineage(l, known, loss, pack, false, 1, nil)
			return !is, e
		}},
		{"Doubt", false, true, false, func(l []api.Paper, known, loss, pack int) (bool, api.Errno) {
			x, is, e := cargo.Doubt(l, known, loss)
			return len(x) == 0 && !is, e
		}},
		{"CheckDoubt", false, true, false, func(l []api.Paper, known, loss, pack int) (bool, api.Errno) {
			is, e := cargo.CheckDoubt(l, known, loss, nil)
			return !is, e
		}},
	}
}

// wanted is the error that a call should return, if a package is not there, there is no tree, or a doubt.
func (c call) wanted(none, tree, doubt bool) api.Errno {
	switch {
	case none && c.none:
		return api.ErrNone
	case tree && c.tree:
		return api.ErrTree
	case doubt && c.doubt:
		return api.ErrDoubt
	}
	return api.OK
}

// P1.1: the errors of A3 to A9 in their order, and nothing beside them.
func TestErrors(t *testing.T) {
	tree := file(t, "1 0 package 1 1 0 a oil 1 9 1 1", "2 0 total 1 0 3 9 90")
	doubt := file(t, "1 0 package 1 1 0 a oil 5 9 1 1", "2 0 total 1 0 3 0 2")
	loop := file(t, "1 0 package 1 1 2 a oil 5 9 1 1", "3 0 package 1 2 1 a oil 5 9 1 1", "2 0 total 1 0 3 0 2")
	bad := append(slices.Clone(doubt), doubt[0])
	for _, c := range calls() {
		for _, x := range []struct {
			what              string
			l                 []api.Paper
			known, loss, pack int
			want              api.Errno
		}{
			{"no file, no loss, no package", bad, 0, 0, 7, api.ErrTwice},
			{"no file", bad, 0, 1, 1, api.ErrTwice},
			{"no loss, no package", tree, 0, 0, 7, api.ErrArg},
			{"no loss", loop, 0, 21, 1, api.ErrArg},
			{"no loss", doubt, 0, -1, 1, api.ErrArg},
			{"the last loss", tree, 0, 20, 7, c.wanted(true, false, false)},
			{"no package, no tree", loop, 0, 1, 7, c.wanted(true, true, false)},
			{"no package, doubt", doubt, 0, 1, 7, c.wanted(true, false, true)},
			{"no package", tree, 0, 1, 7, c.wanted(true, false, false)},
			{"no package", tree, 0, 1, -1, c.wanted(true, false, false)},
			{"no package", tree, 0, 1, 1 << 60, c.wanted(true, false, false)},
			{"no tree", loop, 0, 1, 1, c.wanted(false, true, true)},
			{"doubt", doubt, 0, 1, 1, c.wanted(false, false, true)},
			{"the ship", tree, 0, 1, 0, c.wanted(c.name != "Missing", false, false)},
			{"no package known", tree, -1, 1, 1, c.wanted(true, false, false)},
		} {
			if empty, e := c.do(x.l, x.known, x.loss, x.pack); e != x.want || e != api.OK && !empty {
				t.Errorf("%s: %s: error %d, want %d; nothing beside it: %v", c.name, x.what, e, x.want, empty)
			}
		}
	}
	if x, e := cargo.TotalOf(bad, 0, 0, 7); x != (api.Paper{}) || e != api.ErrTwice {
		t.Errorf("TotalOf of no file: %v, error %d", x, e)
	}
	if x, e := cargo.TotalOf(loop, 0, 21, 7); x != (api.Paper{}) || e != api.ErrArg {
		t.Errorf("TotalOf of no loss: %v, error %d", x, e)
	}
	if x, e := cargo.TotalOf(loop, 0, 1, 0); x.Id != 2 || e != api.OK {
		t.Errorf("TotalOf where there is no tree: %v, error %d", x, e)
	}
}

// P1.1: each error of Check comes first.
func TestErrorsOfCheck(t *testing.T) {
	for want, lines := range map[api.Errno][]string{
		api.ErrTwice: {"1 0 package 1 1 0 a oil 5 9 1 1", "1 0 total 1 0 3 0 2"},
		api.ErrTime:  {"1 1 package 1 1 0 a oil 5 9 1 1", "2 0 total 1 0 3 0 2"},
		api.ErrNone:  {"1 0 package 1 1 0 a oil 5 9 1 1", "2 0 void 3"},
	} {
		for _, c := range calls() {
			if empty, e := c.do(read(t, lines...), 0, 1, 1); e != want || !empty {
				t.Errorf("%s: error %d, want %d", c.name, e, want)
			}
		}
	}
	many := manyPapers(301)
	for _, c := range calls() {
		if empty, e := c.do(many, 0, 1, 1); e != api.ErrLimit || !empty {
			t.Errorf("%s: error %d", c.name, e)
		}
		if empty, e := c.do([]api.Paper{{}}, 0, 1, 1); e != api.ErrArg || !empty {
			t.Errorf("%s: error %d", c.name, e)
		}
	}
}

// P1.1, A9: Append's errors, ErrArg, then those of the file without the paper, then with it.
func TestErrorsOfReached(t *testing.T) {
	tree := file(t, "1 0 package 1 1 0 a oil 1 9 1 1", "2 0 total 1 0 3 9 90")
	doubt := file(t, "1 0 package 1 1 0 a oil 5 9 1 1", "2 0 total 1 0 3 0 2")
	loop := file(t, "1 0 package 1 1 2 a oil 5 9 1 1", "3 0 package 1 2 1 a oil 5 9 1 1", "2 0 total 1 0 3 0 2")
	bad := append(slices.Clone(doubt), doubt[0])
	for _, c := range []struct {
		what string
		l    []api.Paper
		line string
		loss int
		want api.Errno
	}{
		{"no file", bad, "9 0 void 77", 0, api.ErrTwice},
		{"no paper of it, no loss", tree, "9 0 void 77", 0, api.ErrNone},
		{"an Id twice, no loss", tree, "1 0 void 2", 0, api.ErrTwice},
		{"no loss", loop, "9 0 void 2", 0, api.ErrArg},
		{"no loss", doubt, "9 0 void 2", 21, api.ErrArg},
		{"no tree, but with it", loop, "9 0 package 1 1 0 a oil 1 9 1 1", 1, api.ErrTree},
		{"no tree, with it a doubt", loop, "9 0 package 1 1 0 a oil 5 9 1 1", 1, api.ErrTree},
		{"a doubt, but not with it", doubt, "9 0 void 2", 1, api.ErrDoubt},
		{"a doubt, with it no tree", doubt, "9 0 package 1 2 3 a oil 1 9 1 1", 1, api.ErrDoubt},
		{"a tree, but not with it", tree, "9 0 package 1 2 3 a oil 1 9 1 1", 1, api.ErrTree},
		{"a doubt with it", tree, "9 0 total 1 0 3 0 2", 1, api.ErrDoubt},
		{"another loss", tree, "9 0 package 2 2 3 a oil 1 9 1 1", 1, api.OK},
		{"another loss, no tree", tree, "9 0 package 2 2 3 a oil 1 9 1 1", 2, api.ErrTree},
		{"nothing", tree, "9 0 package 1 1 0 a oil 1 9 1 1", 1, api.OK},
	} {
		if got, e := cargo.Reached(c.l, read(t, c.line)[0], c.loss); e != c.want || len(got) != 0 {
			t.Errorf("%s: %v, error %d, want %d", c.what, got, e, c.want)
		}
	}
	if got, e := cargo.Reached(tree, api.Paper{}, 0); e != api.ErrArg || len(got) != 0 {
		t.Errorf("no paper: %v, error %d", got, e)
	}
	if got, e := cargo.Reached(manyPapers(300), aTotal, 0); e != api.ErrLimit || len(got) != 0 {
		t.Errorf("one paper too many: %v, error %d", got, e)
	}
}

// R3: arguments are neither changed nor shared, and nil is as good as empty.
func TestMemory(t *testing.T) {
	l := sample(t, "8 6 void 7")
	kept := slices.Clone(l)
	w, _ := cargo.Weights(l, 3, 1)
	x, _ := cargo.Append(l, aTotal)
	for _, papers := range [][]api.Paper{w, x, cargo.Packages(l, 3, 1), cargo.Totals(l, 3, 1), cargo.Counting(l, 3)} {
		clear(papers)
	}
	same(t, "the file", l, kept)
	ids := []int{2, 7}
	c, _, _ := cargo.Completion(l, 0, 1, 4, 30)
	d := slices.Clone(c)
	cargo.CheckLineage(l, 5, 1, 1, false, 110, ids)
	cargo.CheckDoubt(l, 5, 1, ids)
	cargo.CheckCompletion(l, 0, 1, c)
	cargo.Reached(l, read(t, "9 7 void 1")[0], 1)
	same(t, "the Ids", ids, []int{2, 7})
	same(t, "the completion", c, d)
	same(t, "the file", l, kept)
	for _, none := range [][]api.Paper{nil, {}} {
		for _, call := range calls() {
			if _, e := call.do(none, 0, 1, 1); e != call.wanted(true, false, false) {
				t.Errorf("%s of nothing: error %d", call.name, e)
			}
		}
		if i, e := cargo.Check(none); i != 0 || e != api.OK {
			t.Errorf("Check of nothing: %d, error %d", i, e)
		}
	}
	for _, none := range [][]int{nil, {}} {
		if ok, e := cargo.CheckLineage(l, 5, 1, 1, false, 1, none); !ok || e != api.OK {
			t.Errorf("CheckLineage with nothing: %v, error %d", ok, e)
		}
	}
}
