package cargo_test

import (
	"math/rand/v2"
	"slices"
	"testing"

	"lagan/api"
	"lagan/cargo"
)

// The model says what chapter 1 says, as directly as possible, and slowly.

// read returns the papers with some lines, in any order and number.
func read(t testing.TB, lines ...string) []api.Paper {
	t.Helper()
	var l []api.Paper
	for _, s := range lines {
		x, e := cargo.Read(s)
		if e != api.OK {
			t.Fatalf("Read(%q): error %d", s, e)
		}
		l = append(l, x)
	}
	return l
}

// file returns the papers with some lines, which are a file.
func file(t testing.TB, lines ...string) []api.Paper {
	t.Helper()
	l := read(t, lines...)
	if i, e := cargo.Check(l); i != 0 || e != api.OK {
		t.Fatalf("Check: %d, error %d", i, e)
	}
	return l
}

// sample is the file of the chapter's examples, and what is behind it.
func sample(t testing.TB, more ...string) []api.Paper {
	t.Helper()
	return file(t, append([]string{
		"1 0 package 1 1 0 ab? wool 100 200 2 7",
		"2 0 package 1 2 0 x1 chests 50 90 1 8",
		"3 0 package 1 3 2 ?? silver 10 20 1 8",
		"4 0 package 1 4 2 zz9 silver 5 60 1 9",
		"5 0 total 1 2 2 30 40",
		"6 3 total 1 0 3 200 260",
		"7 5 total 1 0 2 200 260",
	}, more...)...)
}

// model is a manifest: the papers of its packages, and its totals, by what they are of.
type model struct {
	papers, totals map[int]api.Paper
	rows           []api.Paper // all of them in the order of the file
}

func modelOf(l []api.Paper, known, loss int) model {
	m := model{map[int]api.Paper{}, map[int]api.Paper{}, nil}
	for _, x := range l {
		if x.Loss == loss && modelCounts(l, x, known) && x.Kind == api.PaperPackage {
			m.papers[x.Pack] = x
		}
		if x.Loss == loss && modelCounts(l, x, known) && x.Kind == api.PaperTotal {
			m.totals[x.Pack] = x
		}
	}
	for pack := range m.totals {
		if _, is := m.papers[pack]; !is && pack != 0 {
			delete(m.totals, pack)
		}
	}
	for _, x := range l {
		if m.papers[x.Pack] == x || m.totals[x.Pack] == x {
			m.rows = append(m.rows, x)
		}
	}
	return m
}

func modelCounts(l []api.Paper, x api.Paper, known int) bool {
	for _, v := range l {
		if v.Kind == api.PaperVoid && v.Known <= known && v.Of == x.Id {
			return false
		}
	}
	return x.Kind != api.PaperVoid && x.Known <= known
}

// packs are the packages, ascending.
func (m model) packs() []int {
	var out []int
	for pack := 0; pack <= 201; pack++ {
		if _, is := m.papers[pack]; is {
			out = append(out, pack)
		}
	}
	return out
}

func (m model) inside(pack int) []int {
	var out []int
	for _, p := range m.packs() {
		if m.papers[p].In == pack {
			out = append(out, p)
		}
	}
	return out
}

func (m model) isTree() bool {
	for _, pack := range m.packs() {
		steps := 0
		for p := pack; p != 0; p = m.papers[p].In {
			if _, is := m.papers[p]; !is || steps > 201 {
				return false
			}
			steps++
		}
	}
	for pack, x := range m.totals {
		if len(m.inside(pack)) > x.Count {
			return false
		}
	}
	return true
}

func (m model) missing(pack int) int {
	if x, is := m.totals[pack]; is {
		return x.Count - len(m.inside(pack))
	}
	return 0
}

// things are the ship and the packages.
func (m model) things() []int { return append([]int{0}, m.packs()...) }

// isCompletion tries all weights of the missing packages together, and is to be used for small weights.
func (m model) isCompletion(weight map[int]int) bool {
	for _, p := range m.packs() {
		if weight[p] < m.papers[p].Weight.Low || weight[p] > m.papers[p].Weight.High {
			return false
		}
	}
	for _, q := range m.things() {
		sum := 0
		for _, p := range m.inside(q) {
			sum += weight[p]
		}
		most := 100
		if q != 0 {
			most = weight[q]
		}
		total, is := m.totals[q]
		if !is {
			total.Weight = api.Span{Low: 0, High: most}
		}
		fits := false
		for extra := m.missing(q); extra <= m.missing(q)*100000 && sum+extra <= most; extra++ {
			fits = fits || total.Weight.Low <= sum+extra && sum+extra <= total.Weight.High
		}
		if !fits {
			return false
		}
	}
	return true
}

// completions returns all completions, if the papers allow few weights.
func (m model) completions() []map[int]int {
	var out []map[int]int
	weight := map[int]int{}
	var try func(packs []int)
	try = func(packs []int) {
		if len(packs) == 0 {
			if m.isCompletion(weight) {
				c := map[int]int{}
				for p, w := range weight {
					c[p] = w
				}
				out = append(out, c)
			}
			return
		}
		s := m.papers[packs[0]].Weight
		for w := s.Low; w <= s.High; w++ {
			weight[packs[0]] = w
			try(packs[1:])
		}
	}
	try(m.packs())
	return out
}

// narrowed returns the ends of all packages by narrowing all spans until nothing changes, which is sharp
// for a tree; false if nothing is left of one.
func (m model) narrowed() (map[int]api.Span, bool) {
	weight, content, extra := map[int]api.Span{}, map[int]api.Span{}, map[int]api.Span{}
	weight[0] = api.Span{Low: 0, High: 1 << 40}
	for _, q := range m.things() {
		if q != 0 {
			weight[q] = m.papers[q].Weight
		}
		content[q] = api.Span{Low: 0, High: 1 << 40}
		if x, is := m.totals[q]; is {
			content[q] = x.Weight
		}
		extra[q] = api.Span{Low: m.missing(q), High: m.missing(q) * 100000}
	}
	for changed := true; changed; {
		changed = false
		narrow := func(of map[int]api.Span, at, low, high int) {
			s := api.Span{Low: max(of[at].Low, low), High: min(of[at].High, high)}
			changed = changed || s != of[at]
			of[at] = s
		}
		for _, q := range m.things() {
			narrow(content, q, 0, weight[q].High)
			narrow(weight, q, content[q].Low, 1<<40)
			low, high := extra[q].Low, extra[q].High
			for _, p := range m.inside(q) {
				low, high = low+weight[p].Low, high+weight[p].High
			}
			narrow(content, q, low, high)
			narrow(extra, q, content[q].Low-(high-extra[q].High), content[q].High-(low-extra[q].Low))
			for _, p := range m.inside(q) {
				w := weight[p]
				narrow(weight, p, content[q].Low-(high-w.High), content[q].High-(low-w.Low))
			}
			if content[q].Low > content[q].High || weight[q].Low > weight[q].High || extra[q].Low > extra[q].High {
				return nil, false
			}
		}
	}
	delete(weight, 0)
	return weight, true
}

// by returns a model by the weights of some Ids.
func (m model) by(ids []int) model {
	out := model{map[int]api.Paper{}, map[int]api.Paper{}, m.rows}
	for pack, x := range m.papers {
		if !slices.Contains(ids, x.Id) {
			x.Weight = api.Span{Low: 1, High: 100000}
		}
		out.papers[pack] = x
	}
	for pack, x := range m.totals {
		if !slices.Contains(ids, x.Id) {
			x.Weight = api.Span{Low: 0, High: 10000000}
		}
		out.totals[pack] = x
	}
	return out
}

// left goes through the rows from the last one to the first one, and leaves each one out without which
// something still holds.
func (m model) left(holds func(ids []int) bool) []int {
	var ids []int
	for _, x := range m.rows {
		ids = append(ids, x.Id)
	}
	for i := len(m.rows) - 1; i >= 0; i-- {
		fewer := slices.DeleteFunc(slices.Clone(ids), func(id int) bool { return id == m.rows[i].Id })
		if holds(fewer) {
			ids = fewer
		}
	}
	slices.Sort(ids)
	return ids
}

func (m model) lineage(pack int, upper bool) []int {
	end := func(m model) int {
		ends, _ := m.narrowed()
		if upper {
			return ends[pack].High
		}
		return ends[pack].Low
	}
	want := end(m)
	return m.left(func(ids []int) bool { return end(m.by(ids)) == want })
}

func (m model) doubt() []int {
	return m.left(func(ids []int) bool {
		_, is := m.by(ids).narrowed()
		return !is
	})
}

// checks reports whether ids are strictly ascending Ids of rows.
func (m model) checks(ids []int) bool {
	for i, id := range ids {
		if i > 0 && ids[i-1] >= id || !slices.ContainsFunc(m.rows, func(x api.Paper) bool { return x.Id == id }) {
			return false
		}
	}
	return true
}

// randomFile returns a file of packages of the losses 1 and 2, most of them trees, with weights up to about
// most; its hours of knowledge are from 0 to 3.
func randomFile(t testing.TB, r *rand.Rand, most int) []api.Paper {
	l := file(t, "41 0 package 1 4 0 b tin 1 4 1 1")
	ids := r.Perm(40)
	known := 0
	for i := range 4 + r.IntN(10) {
		known = min(3, known+r.IntN(4)/3)
		x := randomPaper(r, l, most)
		x.Id, x.Known = ids[i]+1, known
		if longer, e := cargo.Append(l, x); e == api.OK {
			l = longer
		}
	}
	return l
}

// randomPaper returns a paper, which may be refused, behind some others.
func randomPaper(r *rand.Rand, l []api.Paper, most int) api.Paper {
	loss := 1 + r.IntN(8)/7
	switch r.IntN(7) {
	case 0, 1, 2, 3:
		x := api.Paper{Kind: api.PaperPackage, Loss: loss, Pack: 1 + r.IntN(4), Mark: "a?", Goods: "oil", Weight: randomSpan(r, 1, most)}
		x.In, x.Pieces, x.Owner = r.IntN(x.Pack), 1+r.IntN(20), 1+r.IntN(40)
		if r.IntN(20) == 0 {
			x.In = (x.Pack + 1 + r.IntN(4)) % 6
		}
		return x
	case 4, 5:
		return api.Paper{Kind: api.PaperTotal, Loss: loss, Pack: r.IntN(5), Count: r.IntN(5), Weight: randomSpan(r, 0, 2*most)}
	default:
		return api.Paper{Kind: api.PaperVoid, Of: l[r.IntN(len(l))].Id}
	}
}

func randomSpan(r *rand.Rand, low, high int) api.Span {
	a, b := low+r.IntN(high-low+1), low+r.IntN(high-low+1)
	if r.IntN(3) == 0 {
		a = low
	}
	return api.Span{Low: min(a, b), High: max(a, b)}
}

// same compares lists, of which an empty one is as good as none.
func same[T comparable](t testing.TB, what string, got, want []T) {
	t.Helper()
	if !slices.Equal(got, want) {
		t.Errorf("%s: %v, want %v", what, got, want)
	}
}
