package find

import (
	"maps"
	"slices"

	"lagan/api"
)

// scene is all parcels at an hour of knowledge.
type scene struct {
	reports []api.Report // that count, in the order of the list
	moves   []int        // the Ids of those that are moves, ascending
	parcels []*thing     // by Ids
	at      map[int]int  // the index of each of them
}

// sceneOf returns the scene at an hour of knowledge, if it has the parcels that are asked for.
func sceneOf(l []api.Report, known int, asked ...int) (scene, api.Errno) {
	if e := checkList(l); e != api.OK {
		return scene{}, e
	}
	s := scene{reports: counting(l, known), at: map[int]int{}}
	for _, x := range s.reports {
		if isMove(x) {
			s.moves = append(s.moves, x.Id)
		}
	}
	slices.Sort(s.moves)
	b := beachOf(s.reports)
	for _, id := range slices.Sorted(maps.Keys(b)) {
		if !b[id].other {
			s.at[id] = len(s.parcels)
			s.parcels = append(s.parcels, b[id])
		}
	}
	for _, id := range asked {
		if _, is := s.at[id]; !is {
			return scene{}, api.ErrParcel
		}
	}
	return s, api.OK
}

// parcel returns a parcel of the scene.
func (s scene) parcel(id int) *thing { return s.parcels[s.at[id]] }

// those returns the Ids of the parcels that are sought, ascending.
func (s scene) those(sought func(p *thing) bool) []int {
	var out []int
	for _, p := range s.parcels {
		if sought(p) {
			out = append(out, p.Id)
		}
	}
	return out
}

// Parcels returns all parcels at an hour of knowledge, by Ids.
func Parcels(l []api.Report, known int) ([]api.Parcel, api.Errno) {
	s, e := sceneOf(l, known)
	var out []api.Parcel
	for _, p := range s.parcels {
		out = append(out, p.Parcel)
	}
	return out, e
}

// ParcelOf returns a parcel.
func ParcelOf(l []api.Report, known, parcel int) (api.Parcel, api.Errno) {
	s, e := sceneOf(l, known, parcel)
	if e != api.OK {
		return api.Parcel{}, e
	}
	return s.parcel(parcel).Parcel, api.OK
}

// Finds returns the Ids of the found parcels, ascending.
func Finds(l []api.Report, known int) ([]int, api.Errno) {
	s, e := sceneOf(l, known)
	return s.those(func(p *thing) bool { return p.Found }), e
}

// Present returns the Ids of the parcels that are there at an hour, ascending.
func Present(l []api.Report, known, hour int) ([]int, api.Errno) {
	s, e := sceneOf(l, known)
	return s.those(func(p *thing) bool {
		return p.Hour <= hour && (p.Into == 0 || p.until > hour)
	}), e
}
