package find

import (
	"iter"
	"maps"
	"slices"

	"lagan/api"
)

// outside is the node where finds come from, and parcels go that are there; the other nodes are the Ids of moves.
const outside = 0

// arc is a parcel between two nodes.
type arc struct {
	*thing
	from, to int
}

// arcs yields the arcs of the graph, by the Ids of their parcels.
func (s scene) arcs() iter.Seq[arc] {
	return func(yield func(arc) bool) {
		for _, p := range s.parcels {
			a := arc{thing: p, from: p.From, to: p.Into} // Into is 0, which is the outside, for what is there
			if p.Found {
				a.from = outside
			}
			if !yield(a) {
				return
			}
		}
	}
}

// How an arc can lie to a side.
const (
	enters  = 1
	leaves  = -enters
	neither = 0
)

// lies returns how an arc lies to a side.
func (a arc) lies(side map[int]bool) int {
	switch {
	case side[a.to] && !side[a.from]:
		return enters
	case side[a.from] && !side[a.to]:
		return leaves
	}
	return neither
}

// sideOf returns the set of a side, and whether a list is one.
func (s scene) sideOf(list []int) (map[int]bool, bool) {
	moves := setOf(s.moves)
	for i, id := range list {
		if !moves[id] || i > 0 && list[i-1] >= id {
			return nil, false
		}
	}
	return setOf(list), true
}

// term is an end of the Weight of a parcel that a sum uses.
type term struct {
	of   *thing
	high bool
	less bool // it is taken away
}

func (t term) value() int { return endOf(t.of.Weight, t.high) }

func endOf(s api.Span, high bool) int {
	if high {
		return s.High
	}
	return s.Low
}

// terms returns what the sum uses that shows an end of a parcel, and whether the list is a side that shows one.
func (s scene) terms(parcel int, upper bool, list []int) ([]term, bool) {
	side, is := s.sideOf(list)
	if !is {
		return nil, false
	}
	if len(list) == 0 {
		return []term{{of: s.parcel(parcel), high: upper}}, true
	}
	own := neither
	for a := range s.arcs() {
		if a.Id == parcel {
			own = a.lies(side)
			break
		}
	}
	if own == neither {
		return nil, false
	}
	var out []term
	for a := range s.arcs() {
		switch a.lies(side) {
		case -own:
			out = append(out, term{of: a.thing, high: upper})
		case own:
			if a.Id != parcel {
				out = append(out, term{of: a.thing, high: !upper, less: true})
			}
		}
	}
	return out, true
}

func sumOf(terms []term) int {
	sum := 0
	for _, t := range terms {
		if t.less {
			sum -= t.value()
		} else {
			sum += t.value()
		}
	}
	return sum
}

// CheckSide reports whether a list is a side that shows an end of a parcel.
func CheckSide(l []api.Report, known, parcel int, upper bool, end int, side []int) (bool, api.Errno) {
	s, e := sceneOf(l, known, parcel)
	if e != api.OK {
		return false, e
	}
	terms, is := s.terms(parcel, upper, side)
	if !is {
		return false, api.OK
	}
	if upper {
		return sumOf(terms) <= end, api.OK
	}
	return sumOf(terms) >= end, api.OK
}

// CheckConflict reports whether this is a conflict.
func CheckConflict(l []api.Report, known int, c api.Conflict) (bool, api.Errno) {
	s, e := sceneOf(l, known)
	if e != api.OK {
		return false, e
	}
	if c.Parcel == 0 {
		return s.isCut(c.Side), api.OK
	}
	i, is := s.at[c.Parcel]
	return is && s.parcels[i].isTorn() && len(c.Side) == 0, api.OK
}

// isTorn reports whether what is said of a parcel leaves it no weight.
func (p *thing) isTorn() bool { return p.Weight.Low > p.Weight.High }

// isCut reports whether a list is a side that more enters than can leave, or the other way round.
func (s scene) isCut(list []int) bool {
	side, is := s.sideOf(list)
	if !is {
		return false
	}
	var in, out api.Span
	for a := range s.arcs() {
		switch a.lies(side) {
		case enters:
			in.Low += a.Weight.Low
			in.High += a.Weight.High
		case leaves:
			out.Low += a.Weight.Low
			out.High += a.Weight.High
		}
	}
	return in.Low > out.High || out.Low > in.High
}

// Rests returns the Ids of the reports on which an end that a side shows rests, ascending.
func Rests(l []api.Report, known, parcel int, upper bool, side []int) ([]int, api.Errno) {
	s, e := sceneOf(l, known, parcel)
	if e != api.OK {
		return nil, e
	}
	terms, is := s.terms(parcel, upper, side)
	if !is {
		return nil, api.ErrArg
	}
	return s.sayers(terms), api.OK
}

// sayers returns, for each value of some terms that is not the one by nature, the first report that says it: all
// their Ids, ascending.
func (s scene) sayers(terms []term) []int {
	ids := map[int]bool{}
	for _, t := range terms {
		if t.value() == endOf(byNature, t.high) {
			continue
		}
		says := func(x api.Report) bool {
			id, is := weighed(x)
			return is && t.of.is(id) && endOf(x.Weight, t.high) == t.value()
		}
		if i := slices.IndexFunc(s.reports, says); i >= 0 {
			ids[s.reports[i].Id] = true
		}
	}
	return slices.Sorted(maps.Keys(ids))
}
