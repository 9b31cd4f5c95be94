package cargo

import (
	"cmp"
	"slices"

	"lagan/api"
)

// ship is the number that stands for the ship where a package could be.
const ship = 0

// entry is what a paper speaks of: a package, or all that is directly in one.
type entry struct {
	kind uint8
	pack int
}

func entryOf(x api.Paper) entry { return entry{x.Kind, x.Pack} }

// manifest is what the papers that count say of a loss.
type manifest struct {
	rows   []api.Paper // the papers of its packages, and the totals, in the order of the file
	packs  []api.Paper // the papers of its packages, by ascending Packs
	found  map[entry]api.Paper
	inside map[int][]int // the packages directly in something, ascending
}

// manifestOf returns the manifest of a loss.
func manifestOf(l []api.Paper, known, loss int) (manifest, api.Errno) {
	if _, e := Check(l); e != api.OK {
		return manifest{}, e
	}
	if !within(loss, 1, api.MaxLosses) {
		return manifest{}, api.ErrArg
	}
	last := map[entry]api.Paper{}
	for x := range counting(l, known) {
		if x.Loss == loss {
			last[entryOf(x)] = x
		}
	}
	m := manifest{found: map[entry]api.Paper{}, inside: map[int][]int{}}
	m.rows = those(l, func(x api.Paper) bool {
		_, listed := last[entry{api.PaperPackage, x.Pack}]
		return last[entryOf(x)] == x && (listed || x.Pack == ship)
	})
	for _, x := range m.rows {
		m.found[entryOf(x)] = x
	}
	m.packs = m.ofKind(api.PaperPackage)
	for _, x := range m.packs {
		m.inside[x.In] = append(m.inside[x.In], x.Pack)
	}
	return m, api.OK
}

// treeOf returns the manifest of a loss, if it has the packages that are named, and is a tree.
func treeOf(l []api.Paper, known, loss int, named ...int) (manifest, api.Errno) {
	m, e := manifestOf(l, known, loss)
	if e != api.OK {
		return manifest{}, e
	}
	for _, pack := range named {
		if !m.has(pack) {
			return manifest{}, api.ErrNone
		}
	}
	if !m.isTree() {
		return manifest{}, api.ErrTree
	}
	return m, api.OK
}

// those returns the elements of a list that are sought, in its order.
func those[T any](l []T, sought func(T) bool) []T {
	var out []T
	for _, x := range l {
		if sought(x) {
			out = append(out, x)
		}
	}
	return out
}

// ofKind returns the rows of a kind by ascending Packs.
func (m manifest) ofKind(kind uint8) []api.Paper {
	out := those(m.rows, func(x api.Paper) bool { return x.Kind == kind })
	slices.SortFunc(out, func(a, b api.Paper) int { return cmp.Compare(a.Pack, b.Pack) })
	return out
}

func (m manifest) has(pack int) bool {
	_, is := m.found[entry{api.PaperPackage, pack}]
	return is
}

func (m manifest) isTree() bool {
	for _, x := range m.rows {
		if x.Kind == api.PaperTotal && len(m.inside[x.Pack]) > x.Count {
			return false
		}
	}
	// Each package is directly in one thing alone, so that going down from the ship ends, and comes to
	// all packages exactly if no package is in itself or in one that is not there.
	reached := 0
	var visit func(pack int)
	visit = func(pack int) {
		for _, p := range m.inside[pack] {
			reached++
			visit(p)
		}
	}
	visit(ship)
	return reached == len(m.packs)
}

// missing returns how many packages are missing in something.
func (m manifest) missing(pack int) int {
	total, is := m.found[entry{api.PaperTotal, pack}]
	if !is {
		return 0
	}
	return total.Count - len(m.inside[pack])
}

// Packages returns the papers of all packages of a manifest, by ascending Packs.
func Packages(l []api.Paper, known, loss int) []api.Paper {
	m, _ := manifestOf(l, known, loss)
	return m.packs
}

// Totals returns the totals of a manifest, by ascending Packs.
func Totals(l []api.Paper, known, loss int) []api.Paper {
	m, _ := manifestOf(l, known, loss)
	return m.ofKind(api.PaperTotal)
}

// PaperOf returns the paper of a package.
func PaperOf(l []api.Paper, known, loss, pack int) (api.Paper, api.Errno) {
	return rowOf(l, known, loss, entry{api.PaperPackage, pack})
}

// TotalOf returns the total of a package, or of the ship.
func TotalOf(l []api.Paper, known, loss, pack int) (api.Paper, api.Errno) {
	return rowOf(l, known, loss, entry{api.PaperTotal, pack})
}

func rowOf(l []api.Paper, known, loss int, of entry) (api.Paper, api.Errno) {
	m, e := manifestOf(l, known, loss)
	if e != api.OK {
		return api.Paper{}, e
	}
	x, is := m.found[of]
	if !is {
		return api.Paper{}, api.ErrNone
	}
	return x, api.OK
}

// Inside returns the packages directly in something, ascending.
func Inside(l []api.Paper, known, loss, pack int) []int {
	m, _ := manifestOf(l, known, loss)
	return m.inside[pack]
}

// Leaves returns the packages in which nothing is, ascending.
func Leaves(l []api.Paper, known, loss int) []int {
	m, _ := manifestOf(l, known, loss)
	var out []int
	for _, x := range m.packs {
		if len(m.inside[x.Pack]) == 0 && m.missing(x.Pack) == 0 {
			out = append(out, x.Pack)
		}
	}
	return out
}

// Path returns the packages that lead from the ship to a package.
func Path(l []api.Paper, known, loss, pack int) ([]int, api.Errno) {
	m, e := treeOf(l, known, loss, pack)
	if e != api.OK {
		return nil, e
	}
	var out []int
	for p := pack; p != ship; p = m.found[entry{api.PaperPackage, p}].In {
		out = append(out, p)
	}
	slices.Reverse(out)
	return out, api.OK
}

// Missing returns how many packages are missing in a package, or in the ship.
func Missing(l []api.Paper, known, loss, pack int) (int, api.Errno) {
	var named []int
	if pack != ship {
		named = append(named, pack)
	}
	m, e := treeOf(l, known, loss, named...)
	if e != api.OK {
		return 0, e
	}
	return m.missing(pack), api.OK
}
