package find

import (
	"slices"

	"lagan/api"
)

// before returns the parcels that the report uses up that makes a parcel.
func (s scene) before(p *thing) []int {
	return s.those(func(q *thing) bool { return q.Into == p.From })
}

// behind returns the parcels that the report makes that uses up a parcel.
func (s scene) behind(p *thing) []int {
	return s.those(func(q *thing) bool { return q.From == p.Into })
}

// reach returns a parcel and all that are come to from it by going on again and again.
func (s scene) reach(parcel int, on func(p *thing) []int) map[int]bool {
	reached := map[int]bool{}
	var visit func(id int)
	visit = func(id int) {
		if reached[id] {
			return
		}
		reached[id] = true
		for _, next := range on(s.parcel(id)) {
			visit(next)
		}
	}
	visit(parcel)
	return reached
}

// Origins returns the finds from which moves lead to a parcel, ascending.
func Origins(l []api.Report, known, parcel int) ([]int, api.Errno) {
	s, e := sceneOf(l, known, parcel)
	if e != api.OK {
		return nil, e
	}
	reached := s.reach(parcel, s.before)
	return s.those(func(p *thing) bool { return p.Found && reached[p.Id] }), api.OK
}

// Remains returns the parcels that are there and to which moves lead from a parcel, ascending.
func Remains(l []api.Report, known, parcel int) ([]int, api.Errno) {
	s, e := sceneOf(l, known, parcel)
	if e != api.OK {
		return nil, e
	}
	reached := s.reach(parcel, s.behind)
	return s.those(func(p *thing) bool { return p.Into == 0 && reached[p.Id] }), api.OK
}

// next returns the moves that use up a parcel that a move makes, ascending.
func (s scene) next(move int) []int {
	var out []int
	for _, p := range s.parcels {
		if p.From == move && p.Into != 0 {
			out = append(out, p.Into)
		}
	}
	slices.Sort(out)
	return slices.Compact(out)
}

// Chain returns the shortest chain of moves from a parcel to another one.
func Chain(l []api.Report, known, find, parcel int) ([]int, api.Errno) {
	s, e := sceneOf(l, known, find, parcel)
	if e != api.OK {
		return nil, e
	}
	if find == parcel {
		return nil, api.OK
	}
	chain, is := s.chain(s.parcel(find).Into, s.parcel(parcel).From)
	if !is {
		return nil, api.ErrNone
	}
	return chain, api.OK
}

// chain returns the first one of the shortest chains of moves that begin with one and end with another one, and
// whether there is one. A parcel that is not used up has the move 0, which leads nowhere.
func (s scene) chain(first, last int) ([]int, bool) {
	before := map[int]int{first: 0}
	// The moves are come to in the order of the first chains that lead to them, so that the first chain that
	// comes to one is the one that is sought.
	come := []int{first}
seek:
	for i := 0; i < len(come); i++ {
		for _, move := range s.next(come[i]) {
			if _, is := before[move]; is {
				continue
			}
			before[move] = come[i]
			come = append(come, move)
			if move == last {
				break seek
			}
		}
	}
	if _, is := before[last]; !is {
		return nil, false
	}
	var chain []int
	for move := last; move != 0; move = before[move] {
		chain = append(chain, move)
	}
	slices.Reverse(chain)
	return chain, true
}

// CheckChain reports whether a list is a chain of moves from a parcel to another one.
func CheckChain(l []api.Report, known, find, parcel int, chain []int) (bool, api.Errno) {
	s, e := sceneOf(l, known, find, parcel)
	if e != api.OK {
		return false, e
	}
	if len(chain) == 0 {
		return find == parcel, api.OK
	}
	for i, move := range chain[1:] {
		if !slices.Contains(s.next(chain[i]), move) {
			return false, api.OK
		}
	}
	ends := [2]int{chain[0], chain[len(chain)-1]}
	return ends == [2]int{s.parcel(find).Into, s.parcel(parcel).From}, api.OK
}
