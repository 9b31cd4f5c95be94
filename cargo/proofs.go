package cargo

import (
	"slices"

	"lagan/api"
)

// anyWeight is the Weight of a row whose own one is left out.
func anyWeight(kind uint8) api.Span {
	if kind == api.PaperTotal {
		return api.Span{Low: 0, High: api.MaxTotal}
	}
	return api.Span{Low: 1, High: api.MaxWeight}
}

// rests goes through the rows from the last one to the first one, leaves out the Weight of each one
// without which something still holds, and returns the Ids of the others, ascending.
func (s scale) rests(holds func() bool) []int {
	var ids []int
	for i := len(s.rows) - 1; i >= 0; i-- {
		x := s.rows[i]
		s.weight[entryOf(x)] = anyWeight(x.Kind)
		if !holds() {
			s.weight[entryOf(x)] = x.Weight
			ids = append(ids, x.Id)
		}
	}
	slices.Sort(ids)
	return ids
}

// by returns the scale by the Weights of some Ids, and whether these are strictly ascending Ids of rows.
func (m manifest) by(ids []int) (scale, bool) {
	for i := 1; i < len(ids); i++ {
		if ids[i-1] >= ids[i] {
			return scale{}, false
		}
	}
	s := newScale(m)
	kept := 0
	for _, x := range m.rows {
		if _, is := slices.BinarySearch(ids, x.Id); is {
			kept++
		} else {
			s.weight[entryOf(x)] = anyWeight(x.Kind)
		}
	}
	return s, kept == len(ids)
}

func endOf(s api.Span, upper bool) int {
	if upper {
		return s.High
	}
	return s.Low
}

// Lineage returns the Ids on whose weights an end of a package rests, ascending.
func Lineage(l []api.Paper, known, loss, pack int, upper bool) ([]int, api.Errno) {
	m, e := treeOf(l, known, loss, pack)
	if e != api.OK {
		return nil, e
	}
	s := newScale(m)
	ends, e := s.ends()
	if e != api.OK {
		return nil, e
	}
	end := endOf(ends[pack], upper)
	return s.rests(func() bool {
		now, _ := s.ends()
		return endOf(now[pack], upper) == end
	}), api.OK
}

// CheckLineage reports whether by the weights of some Ids an end of a package is at most as wide as said.
func CheckLineage(l []api.Paper, known, loss, pack int, upper bool, end int, ids []int) (bool, api.Errno) {
	m, e := treeOf(l, known, loss, pack)
	if e != api.OK {
		return false, e
	}
	s, is := m.by(ids)
	if !is {
		return false, api.OK
	}
	ends, e := s.ends()
	if e != api.OK {
		return false, api.OK
	}
	if upper {
		return ends[pack].High <= end, api.OK
	}
	return ends[pack].Low >= end, api.OK
}

// Doubt returns Ids by whose weights there is no completion, ascending, and whether the papers contradict each other.
func Doubt(l []api.Paper, known, loss int) ([]int, bool, api.Errno) {
	m, e := treeOf(l, known, loss)
	if e != api.OK {
		return nil, false, e
	}
	s := newScale(m)
	if !s.contradicts() {
		return nil, false, api.OK
	}
	return s.rests(s.contradicts), true, api.OK
}

// CheckDoubt reports whether there is no completion by the weights of some Ids.
func CheckDoubt(l []api.Paper, known, loss int, ids []int) (bool, api.Errno) {
	m, e := treeOf(l, known, loss)
	if e != api.OK {
		return false, e
	}
	s, is := m.by(ids)
	return is && s.contradicts(), api.OK
}

// Reached returns the packages whose ends a further paper changes, ascending.
func Reached(l []api.Paper, x api.Paper, loss int) ([]int, api.Errno) {
	longer, e := Append(l, x)
	if e != api.OK {
		return nil, e
	}
	before, e := endsOf(l, x.Known, loss)
	if e != api.OK {
		return nil, e
	}
	after, e := endsOf(longer, x.Known, loss)
	if e != api.OK {
		return nil, e
	}
	var out []int
	for pack := 1; pack <= api.MaxPacks; pack++ {
		if before[pack] != after[pack] {
			out = append(out, pack)
		}
	}
	return out, api.OK
}

func endsOf(l []api.Paper, known, loss int) (map[int]api.Span, api.Errno) {
	m, e := treeOf(l, known, loss)
	if e != api.OK {
		return nil, e
	}
	return newScale(m).ends()
}
