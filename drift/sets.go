package drift

import (
	"iter"
	"slices"

	"lagan/api"
)

// set is a set of places: a word for each cell, which has a bit for each band.
type set [api.MaxCells]uint8

const beachBit uint8 = 1

func bandBit(band int) uint8 { return beachBit << band }

// setOf returns the set of the places of a sea that a list has.
func setOf(s api.Sea, list []api.Place) set {
	var out set
	for _, p := range list {
		if isPlace(s, p) {
			out[p.Cell] |= bandBit(p.Band)
		}
	}
	return out
}

// only returns the set of one place.
func only(p api.Place) set {
	var out set
	out[p.Cell] = bandBit(p.Band)
	return out
}

// places yields the places of a set in order.
func (a set) places() iter.Seq[api.Place] {
	return func(yield func(api.Place) bool) {
		for cell, bands := range a {
			for band := 0; bands>>band != 0; band++ {
				if bands&bandBit(band) != 0 && !yield(api.Place{Cell: cell, Band: band}) {
					return
				}
			}
		}
	}
}

func (a set) list() []api.Place { return slices.Collect(a.places()) }

// beaches returns the cells whose beach is in a set, ascending.
func (a set) beaches() []int {
	var out []int
	for cell, bands := range a {
		if bands&beachBit != 0 {
			out = append(out, cell)
		}
	}
	return out
}

// afloat returns the places of a set that are no beaches.
func (a set) afloat() set {
	for cell := range a {
		a[cell] &^= beachBit
	}
	return a
}

func (a set) has(p api.Place) bool { return a[p.Cell]&bandBit(p.Band) != 0 }

// both returns the places that are in one of two sets or in both.
func (a set) both(b set) set {
	for cell := range a {
		a[cell] |= b[cell]
	}
	return a
}

// differing returns the places that are in one of two sets alone.
func (a set) differing(b set) set {
	for cell := range a {
		a[cell] ^= b[cell]
	}
	return a
}

// isIn reports whether all places of a set are in another one.
func (a set) isIn(b set) bool { return a.both(b) == b }

// meets reports whether two sets have a place in common: otherwise each place of both is in one of them alone.
func (a set) meets(b set) bool { return a.both(b) != a.differing(b) }
