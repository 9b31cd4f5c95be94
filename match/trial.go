package match

import (
	"slices"

	"lagan/api"
)

// trial is a board that is tried: its finds are given slots, one after the other.
type trial struct {
	board
	slots []int // of each find; none as long as it has none
	left  []int // how many more finds each slot can have
	firm  int   // the finds before this one keep their slots
}

func newTrial(b board) *trial {
	t := &trial{board: b, left: each(b.Slots, func(x api.Slot) int { return x.Pieces })}
	for range b.Finds {
		t.slots = append(t.slots, none)
	}
	return t
}

// filled returns a trial in which each find has a slot that fits some; ErrHall if there is no assignment.
func filled(b api.Board, finds, slots []int) (*trial, api.Errno) {
	x, e := boardOf(b, finds, slots)
	if e != api.OK {
		return nil, e
	}
	t := newTrial(x)
	if _, is := t.fill(); !is {
		return nil, api.ErrHall
	}
	return t, api.OK
}

// take takes a find its slot, if it has one, and returns this.
func (t *trial) take(find int) int {
	slot := t.slots[find]
	if slot != none {
		t.left[slot]++
	}
	t.slots[find] = none
	return slot
}

func (t *trial) give(find, slot int) {
	t.take(find)
	t.slots[find] = slot
	t.left[slot]--
}

// movers returns what says whether a find has some slot and does not have to keep it.
func (t *trial) movers(slot int) func(find int) bool {
	return func(find int) bool { return t.slots[find] == slot && find >= t.firm }
}

// seat gives a find one of some slots, and other finds other ones where this needs it, and reports whether this can
// be. If not, it returns which slots it tried: they are full, and the finds that have them fit no others.
func (t *trial) seat(find int, among []int) ([]bool, bool) {
	tried := make([]bool, len(t.Slots))
	var seek func(find int, among []int) bool
	seek = func(find int, among []int) bool {
		to := none
	search:
		for _, slot := range among {
			if tried[slot] {
				continue
			}
			tried[slot] = true
			if t.left[slot] > 0 {
				to = slot
				break search
			}
			for other := range t.those(t.movers(slot)) {
				if seek(other, t.Fits[other]) {
					to = slot
					break search
				}
			}
		}
		if to == none {
			return false
		}
		t.give(find, to)
		return true
	}
	is := seek(find, among)
	return tried, is
}

// crowd returns the finds that have one of some slots, ascending, with some others.
func (t *trial) crowd(tried []bool, others ...int) []int {
	return slices.Collect(t.those(func(find int) bool {
		slot := t.slots[find]
		return slot != none && tried[slot] || slices.Contains(others, find)
	}))
}

// fill gives each find a slot that fits some, and reports whether this can be; if not, it returns a Hall set.
func (t *trial) fill() ([]int, bool) {
	for find := range t.those(t.fitsSome) {
		if tried, is := t.seat(find, t.Fits[find]); !is {
			return t.crowd(tried, find), false
		}
	}
	return nil, true
}

// move gives a find of an assignment a slot, and others other ones, so that it is one again, and reports whether
// this can be; if not, it returns a denial, and changes nothing.
func (t *trial) move(find, slot int) ([]int, bool) {
	if !t.fits(find, slot) {
		return nil, false
	}
	was := t.take(find)
	tried, is := t.seat(find, []int{slot})
	if is {
		return nil, true
	}
	t.give(find, was)
	return t.crowd(tried), false
}

// lower makes an assignment the first one: in turn each find gets the first slot that it can have with those that
// the finds before it have.
func (t *trial) lower() {
	for find := range t.Finds {
		t.firm = find
		for _, slot := range t.Fits[find] {
			if _, is := t.move(find, slot); is {
				break
			}
		}
	}
}
