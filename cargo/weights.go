package cargo

import "lagan/api"

// boundless is at least what all that is in a ship can weigh.
const boundless = api.MaxPacks * api.MaxWeight

// scale is a manifest that is a tree, with a Weight for each of its rows, which may be wider or
// narrower than the one that the row has.
type scale struct {
	manifest
	weight map[entry]api.Span
}

func newScale(m manifest) scale {
	s := scale{m, map[entry]api.Span{}}
	for _, x := range m.rows {
		s.weight[entryOf(x)] = x.Weight
	}
	return s
}

func (s scale) packWeight(pack int) api.Span { return s.weight[entry{api.PaperPackage, pack}] }

// load is what can be directly in something.
type load struct {
	named   api.Span // what the packages of the manifest can weigh together
	missing int
	least   int // of all together
}

func (s scale) loadOf(pack int) load {
	total, is := s.weight[entry{api.PaperTotal, pack}]
	if !is {
		return load{named: api.Span{Low: 0, High: boundless}}
	}
	n := s.missing(pack)
	named := api.Span{Low: total.Low - n*api.MaxWeight, High: total.High - n}
	return load{named, n, total.Low}
}

// lows returns, for each package, the least weight that it can have by what is in it. What is around it
// is asked as well, but only for a contradiction: ErrDoubt.
func (s scale) lows() (low map[int]int, e api.Errno) {
	defer func() {
		if recover() != nil {
			low, e = nil, api.ErrDoubt
		}
	}()
	low = map[int]int{}
	var visit func(pack int) int
	visit = func(pack int) int {
		least, most := 0, 0
		for _, p := range s.inside[pack] {
			w := s.packWeight(p)
			content := visit(p)
			low[p] = max(w.Low, content)
			if low[p] > w.High {
				panic(api.ErrDoubt)
			}
			least += low[p]
			most += w.High
		}
		can := s.loadOf(pack)
		named := max(least, can.named.Low)
		if named > min(most, can.named.High) {
			panic(api.ErrDoubt)
		}
		return max(named+can.missing, can.least)
	}
	visit(ship)
	return low, api.OK
}

// contradicts reports whether there is no completion.
func (s scale) contradicts() bool {
	_, e := s.lows()
	return e != api.OK
}

// ends returns the ends of all packages; ErrDoubt if there is no completion.
func (s scale) ends() (map[int]api.Span, api.Errno) {
	low, e := s.lows()
	if e != api.OK {
		return nil, e
	}
	ends := map[int]api.Span{}
	// What is around a thing asks of what is in it only that it be light enough for the thing, so that
	// for what is in it the thing may weigh as much as it can.
	var visit func(pack, most int)
	visit = func(pack, most int) {
		can := s.loadOf(pack)
		can.named.High = min(can.named.High, most-can.missing)
		lows, highs := 0, 0
		for _, p := range s.inside[pack] {
			lows += low[p]
			highs += s.packWeight(p).High
		}
		for _, p := range s.inside[pack] {
			high := s.packWeight(p).High
			end := api.Span{
				Low:  max(low[p], can.named.Low-(highs-high)),
				High: min(high, can.named.High-(lows-low[p])),
			}
			ends[p] = end
			visit(p, end.High)
		}
	}
	visit(ship, boundless)
	return ends, api.OK
}

// lightest returns a completion, and whether there is one. Each package is as light as what is in it allows;
// where a total asks for more, the first ones of what is directly in there are heavier.
func (s scale) lightest() ([]api.Weighed, bool) {
	low, e := s.lows()
	if e != api.OK {
		return nil, false
	}
	weight := map[int]int{}
	var visit func(pack int)
	visit = func(pack int) {
		short := s.loadOf(pack).named.Low
		for _, p := range s.inside[pack] {
			short -= low[p]
		}
		for _, p := range s.inside[pack] {
			more := min(max(short, 0), s.packWeight(p).High-low[p])
			weight[p] = low[p] + more
			short -= more
			visit(p)
		}
	}
	visit(ship)
	var out []api.Weighed
	for _, x := range s.packs {
		out = append(out, api.Weighed{Pack: x.Pack, Weight: weight[x.Pack]})
	}
	return out, true
}

// Weigh returns the ends of a package.
func Weigh(l []api.Paper, known, loss, pack int) (api.Span, api.Errno) {
	m, e := treeOf(l, known, loss, pack)
	if e != api.OK {
		return api.Span{}, e
	}
	ends, e := newScale(m).ends()
	return ends[pack], e
}

// Weights returns the papers of all packages, with the ends of each as its Weight.
func Weights(l []api.Paper, known, loss int) ([]api.Paper, api.Errno) {
	m, e := treeOf(l, known, loss)
	if e != api.OK {
		return nil, e
	}
	ends, e := newScale(m).ends()
	if e != api.OK {
		return nil, e
	}
	for i := range m.packs {
		m.packs[i].Weight = ends[m.packs[i].Pack]
	}
	return m.packs, api.OK
}

// Completion returns a completion in which a package has a weight, and whether there is one.
func Completion(l []api.Paper, known, loss, pack, weight int) ([]api.Weighed, bool, api.Errno) {
	m, e := treeOf(l, known, loss, pack)
	if e != api.OK {
		return nil, false, e
	}
	s := newScale(m)
	if s.contradicts() {
		return nil, false, api.ErrDoubt
	}
	if own := s.packWeight(pack); !within(weight, own.Low, own.High) {
		return nil, false, api.OK
	}
	s.weight[entry{api.PaperPackage, pack}] = api.Span{Low: weight, High: weight}
	c, is := s.lightest()
	return c, is, api.OK
}

// CheckCompletion reports whether a list is a completion.
func CheckCompletion(l []api.Paper, known, loss int, c []api.Weighed) (bool, api.Errno) {
	m, e := treeOf(l, known, loss)
	if e != api.OK {
		return false, e
	}
	if len(c) != len(m.packs) {
		return false, api.OK
	}
	s := newScale(m)
	for i, x := range m.packs {
		if c[i].Pack != x.Pack || !within(c[i].Weight, x.Weight.Low, x.Weight.High) {
			return false, api.OK
		}
		s.weight[entryOf(x)] = api.Span{Low: c[i].Weight, High: c[i].Weight}
	}
	return !s.contradicts(), api.OK
}
