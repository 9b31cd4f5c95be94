package match

import "lagan/api"

// Assign returns the first assignment, and whether there is one.
func Assign(b api.Board) ([]int, bool, api.Errno) {
	x, e := boardOf(b, nil, nil)
	if e != api.OK {
		return nil, false, e
	}
	t := newTrial(x)
	if _, is := t.fill(); !is {
		return nil, false, api.OK
	}
	t.lower()
	return t.slots, true, api.OK
}

// Meets reports whether a list is an assignment.
func Meets(b api.Board, l []int) (bool, api.Errno) {
	x, e := boardOf(b, nil, nil)
	if e != api.OK {
		return false, e
	}
	if len(l) != len(b.Finds) {
		return false, api.OK
	}
	t := newTrial(x)
	for find, slot := range l {
		if t.fitsNone(find) && slot == none {
			continue
		}
		if !t.fits(find, slot) || t.left[slot] == 0 {
			return false, api.OK
		}
		t.give(find, slot)
	}
	return true, api.OK
}

// Hall returns a Hall set, and whether there is one.
func Hall(b api.Board) ([]int, bool, api.Errno) {
	x, e := boardOf(b, nil, nil)
	if e != api.OK {
		return nil, false, e
	}
	finds, is := newTrial(x).fill()
	return finds, !is, api.OK
}

// CheckHall reports whether a list is a Hall set.
func CheckHall(b api.Board, finds []int) (bool, api.Errno) {
	x, e := boardOf(b, nil, nil)
	if e != api.OK {
		return false, e
	}
	return x.isCrowd(finds, none), api.OK
}
