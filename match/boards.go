package match

import (
	"iter"
	"slices"

	"lagan/api"
)

// Numbers of finds.
const (
	minFind = 10
	maxFind = 10*api.MaxId + api.MaxDivide - 1
)

// CheckBoard returns ErrLimit if a board has too many finds or slots, then ErrArg if it is not as the chapter says.
func CheckBoard(b api.Board) api.Errno {
	if len(b.Finds) > api.MaxFinds || len(b.Slots) > api.MaxSlots {
		return api.ErrLimit
	}
	if !isAscending(b.Finds, minFind, maxFind) || !areSlots(b.Slots) || len(b.Fits) != len(b.Finds) {
		return api.ErrArg
	}
	for _, fits := range b.Fits {
		if !isAscending(fits, 0, len(b.Slots)-1) {
			return api.ErrArg
		}
	}
	return api.OK
}

func areSlots(l []api.Slot) bool {
	for i, x := range l {
		formed := within(x.Loss, 1, api.MaxLosses) && within(x.Pack, 1, api.MaxPacks) && within(x.Pieces, 1, api.MaxPieces)
		if !formed || i > 0 && !isBefore(l[i-1], x) {
			return false
		}
	}
	return true
}

func isBefore(a, b api.Slot) bool {
	return a.Loss < b.Loss || a.Loss == b.Loss && a.Pack < b.Pack
}

// board is a board that CheckBoard accepts.
type board struct{ api.Board }

// boardOf returns a board, if it is as said, and the finds and slots that are asked for are strictly ascending ones.
func boardOf(b api.Board, finds, slots []int) (board, api.Errno) {
	if e := CheckBoard(b); e != api.OK {
		return board{}, e
	}
	if !isAscending(finds, 0, len(b.Finds)-1) || !isAscending(slots, 0, len(b.Slots)-1) {
		return board{}, api.ErrArg
	}
	return board{b}, api.OK
}

func (b board) fits(find, slot int) bool {
	_, is := slices.BinarySearch(b.Fits[find], slot)
	return is
}

func (b board) fitsSome(find int) bool { return len(b.Fits[find]) > 0 }

func (b board) fitsNone(find int) bool { return len(b.Fits[find]) == 0 }

// those yields the finds that are sought, ascending.
func (b board) those(sought func(find int) bool) iter.Seq[int] {
	return func(yield func(find int) bool) {
		for find := range b.Finds {
			if sought(find) && !yield(find) {
				return
			}
		}
	}
}

// isCrowd reports whether a list is finds, each of which fits some slot, for which the slots that they fit have too
// few pieces, if one piece of a slot is denied to them, or of no slot.
func (b board) isCrowd(finds []int, denied int) bool {
	if !isAscending(finds, 0, len(b.Finds)-1) || slices.ContainsFunc(finds, b.fitsNone) {
		return false
	}
	slots := map[api.Slot]bool{}
	pieces := 0
	for _, find := range finds {
		for _, slot := range b.Fits[find] {
			x := b.Slots[slot]
			if slots[x] {
				continue
			}
			slots[x] = true
			pieces += x.Pieces
			if slot == denied {
				pieces--
			}
		}
	}
	return pieces < len(finds)
}

// copied returns a board that shares no memory with another one.
func copied(b api.Board) api.Board {
	return api.Board{
		Finds: slices.Clone(b.Finds),
		Slots: slices.Clone(b.Slots),
		Fits:  each(b.Fits, slices.Clone[[]int]),
	}
}

// Nobody returns the finds that fit no slot, ascending.
func Nobody(b api.Board) ([]int, api.Errno) {
	x, e := boardOf(b, nil, nil)
	if e != api.OK {
		return nil, e
	}
	return slices.Collect(x.those(x.fitsNone)), api.OK
}

// Without returns the board without a find.
func Without(b api.Board, find int) (api.Board, api.Errno) {
	if _, e := boardOf(b, []int{find}, nil); e != api.OK {
		return api.Board{}, e
	}
	c := copied(b)
	c.Finds = slices.Delete(c.Finds, find, find+1)
	c.Fits = slices.Delete(c.Fits, find, find+1)
	return c, api.OK
}

// Barred returns the board in which a find does not fit a slot.
func Barred(b api.Board, find, slot int) (api.Board, api.Errno) {
	return narrowed(b, find, slot, func(other int) bool { return other == slot })
}

// Fixed returns the board in which a find fits a slot alone.
func Fixed(b api.Board, find, slot int) (api.Board, api.Errno) {
	return narrowed(b, find, slot, func(other int) bool { return other != slot })
}

// narrowed returns the board in which a find, which fits a slot, does not fit some slots that it fits.
func narrowed(b api.Board, find, slot int, isLost func(slot int) bool) (api.Board, api.Errno) {
	x, e := boardOf(b, []int{find}, []int{slot})
	if e != api.OK {
		return api.Board{}, e
	}
	if !x.fits(find, slot) {
		return api.Board{}, api.ErrNone
	}
	c := copied(b)
	c.Fits[find] = slices.DeleteFunc(c.Fits[find], isLost)
	return c, api.OK
}
