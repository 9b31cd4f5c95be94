package match

import (
	"slices"

	"lagan/api"
)

// May reports whether some assignment gives a find a slot.
func May(b api.Board, find, slot int) (bool, api.Errno) {
	_, is, e := Through(b, find, slot)
	return is, e
}

// Through returns an assignment that gives a find a slot, and whether there is one.
func Through(b api.Board, find, slot int) ([]int, bool, api.Errno) {
	t, e := filled(b, []int{find}, []int{slot})
	if e != api.OK {
		return nil, false, e
	}
	if _, is := t.move(find, slot); !is {
		return nil, false, api.OK
	}
	return t.slots, true, api.OK
}

// Refuse returns a denial of a slot to a find, and whether there is one.
func Refuse(b api.Board, find, slot int) ([]int, bool, api.Errno) {
	t, e := filled(b, []int{find}, []int{slot})
	if e != api.OK {
		return nil, false, e
	}
	finds, is := t.move(find, slot)
	return finds, !is, api.OK
}

// CheckRefuse reports whether a list is a denial of a slot to a find.
func CheckRefuse(b api.Board, find, slot int, finds []int) (bool, api.Errno) {
	x, e := boardOf(b, []int{find}, []int{slot})
	if e != api.OK {
		return false, e
	}
	if !x.fits(find, slot) {
		return len(finds) == 0, api.OK
	}
	return !slices.Contains(finds, find) && x.isCrowd(finds, slot), api.OK
}

// chances returns the slots that some assignment gives a find, ascending.
func (t *trial) chances(find int) []int {
	var out []int
	for _, slot := range t.Fits[find] {
		if _, is := t.move(find, slot); is {
			out = append(out, slot)
		}
	}
	return out
}

// must returns the slot that every assignment gives a find, and none if there is none.
func (t *trial) must(find int) int {
	if chances := t.chances(find); len(chances) == 1 {
		return chances[0]
	}
	return none
}

// Chances returns, for each find, the slots that some assignment gives it, ascending.
func Chances(b api.Board) ([][]int, api.Errno) {
	return askAll(b, (*trial).chances)
}

// Must returns, for each find, the slot that every assignment gives it, and -1 if there is none.
func Must(b api.Board) ([]int, api.Errno) {
	return askAll(b, (*trial).must)
}

// askAll returns what is answered for each find of a board.
func askAll[T any](b api.Board, ask func(t *trial, find int) T) ([]T, api.Errno) {
	t, e := filled(b, nil, nil)
	if e != api.OK {
		return nil, e
	}
	var out []T
	for find := range t.Finds {
		out = append(out, ask(t, find))
	}
	return out, api.OK
}

// Within reports whether every assignment gives a find one of some slots.
func Within(b api.Board, find int, slots []int) (bool, api.Errno) {
	t, e := filled(b, []int{find}, slots)
	if e != api.OK {
		return false, e
	}
	isOther := func(slot int) bool { return !slices.Contains(slots, slot) }
	return t.fitsSome(find) && !slices.ContainsFunc(t.chances(find), isOther), api.OK
}

// Load returns the least and the greatest number of finds that an assignment gives a slot.
func Load(b api.Board, slot int) (low, high int, e api.Errno) {
	t, e := filled(b, nil, []int{slot})
	if e != api.OK {
		return 0, 0, e
	}
	// As long as the slot has a piece left, each find that fits it can come into it from another one.
	fitting := slices.Collect(t.those(func(find int) bool { return t.fits(find, slot) }))
	high = min(len(fitting), t.Slots[slot].Pieces)
	// It has to take those alone for which there is no room elsewhere when as many as can be are there.
	bare := board{copied(b)}
	bare.Slots[slot].Pieces = 0
	t = newTrial(bare)
	for find := range t.those(t.fitsSome) {
		if _, is := t.seat(find, t.Fits[find]); !is {
			low++
		}
	}
	return low, high, api.OK
}
