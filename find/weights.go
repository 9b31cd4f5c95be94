package find

import (
	"maps"
	"slices"

	"lagan/api"
)

// balanced returns a flow of balanced weights, and whether there is one; if not, it returns a conflict.
func (s scene) balanced() (*flow, api.Conflict, bool) {
	for _, p := range s.parcels {
		if p.isTorn() {
			return nil, api.Conflict{Parcel: p.Id}, false
		}
	}
	f := newFlow(s)
	side, is := f.balance()
	if !is {
		return nil, api.Conflict{Side: side}, false
	}
	return f, api.Conflict{}, true
}

// flowOf returns the scene at an hour of knowledge, and a flow of balanced weights.
func flowOf(l []api.Report, known int, asked ...int) (scene, *flow, api.Errno) {
	s, e := sceneOf(l, known, asked...)
	if e != api.OK {
		return scene{}, nil, e
	}
	f, _, is := s.balanced()
	if !is {
		return scene{}, nil, api.ErrBalance
	}
	return s, f, api.OK
}

// Weight returns the ends of a parcel.
func Weight(l []api.Report, known, parcel int) (low, high int, e api.Errno) {
	s, f, e := flowOf(l, known, parcel)
	if e != api.OK {
		return 0, 0, e
	}
	ends := f.ends(s.at[parcel])
	return ends.Low, ends.High, api.OK
}

// ends returns both ends of a parcel.
func (f *flow) ends(parcel int) api.Span {
	low, _ := f.end(parcel, false)
	high, _ := f.end(parcel, true)
	return api.Span{Low: low, High: high}
}

// Bound returns an end of a parcel, balanced weights in which it has it, and a side that shows it.
func Bound(l []api.Report, known, parcel int, upper bool) (int, []int, []int, api.Errno) {
	s, f, e := flowOf(l, known, parcel)
	if e != api.OK {
		return 0, nil, nil, e
	}
	end, side := f.end(s.at[parcel], upper)
	return end, f.weight, side, api.OK
}

// CheckWeights reports whether a list is balanced weights.
func CheckWeights(l []api.Report, known int, x []int) (bool, api.Errno) {
	s, e := sceneOf(l, known)
	if e != api.OK {
		return false, e
	}
	if len(x) != len(s.parcels) {
		return false, api.OK
	}
	for i, p := range s.parcels {
		if !within(x[i], p.Weight.Low, p.Weight.High) {
			return false, api.OK
		}
	}
	f := newFlow(s)
	f.weight = x
	for _, n := range f.surplus() {
		if n != 0 {
			return false, api.OK
		}
	}
	return true, api.OK
}

// Conflict returns a conflict, and whether the reports contradict each other.
func Conflict(l []api.Report, known int) (api.Conflict, bool, api.Errno) {
	s, e := sceneOf(l, known)
	if e != api.OK {
		return api.Conflict{}, false, e
	}
	_, c, is := s.balanced()
	return c, !is, api.OK
}

// Changed returns the parcels whose ends are not the same at two hours of knowledge, ascending.
func Changed(l []api.Report, from, to int) ([]int, api.Errno) {
	before, e := endsOf(l, from)
	if e != api.OK {
		return nil, e
	}
	after, e := endsOf(l, to)
	if e != api.OK {
		return nil, e
	}
	var out []int
	for _, id := range slices.Sorted(maps.Keys(before)) {
		if ends, is := after[id]; is && ends != before[id] {
			out = append(out, id)
		}
	}
	return out, api.OK
}

// endsOf returns the ends of all parcels.
func endsOf(l []api.Report, known int) (map[int]api.Span, api.Errno) {
	s, f, e := flowOf(l, known)
	if e != api.OK {
		return nil, e
	}
	ends := map[int]api.Span{}
	for i, p := range s.parcels {
		ends[p.Id] = f.ends(i)
	}
	return ends, api.OK
}
