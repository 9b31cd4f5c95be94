package inquiry

import (
	"slices"

	"lagan/api"
	"lagan/cargo"
	"lagan/claim"
	"lagan/find"
	"lagan/match"
)

// noDeadline is the deadline of a slot that no find fits.
const noDeadline = -1

// knowledge is what papers, winds and reports alone say at an hour of knowledge. All but the parcels is found when it is
// first asked for.
type knowledge struct {
	known      int
	parcels    []api.Parcel         // by Ids
	origins    map[int][]api.Parcel // by parcels
	isBuilt    bool
	board      api.Board
	fault      api.Errno // of the board
	isTried    bool
	chances    [][]int // of the finds of the board
	isPossible bool    // there is an assignment
}

// right is to what a slot is asked for at an hour.
type right struct{ slot, hour int }

// ruling is who has a right, or the error with which this is not known.
type ruling struct {
	titles []api.Title
	fault  api.Errno
}

// books are valid books, with what is known of them.
type books struct {
	api.Books
	*knowledge
	rulings map[right]ruling // as far as they were asked for
}

// newBooks returns valid books as known at an hour.
func newBooks(b api.Books, known int) *books {
	// The books are valid, and Parcels returns no other error.
	parcels, _ := find.Parcels(b.Reports, known)
	k := &knowledge{known: known, parcels: parcels, origins: map[int][]api.Parcel{}}
	return &books{b, k, map[right]ruling{}}
}

// open returns books as known at an hour, if they are valid.
func open(b api.Books, known int) (*books, api.Errno) {
	if e := CheckBooks(b); e != api.OK {
		return nil, e
	}
	return newBooks(b, known), api.OK
}

// with returns other books that have the same papers, winds and reports.
func (b *books) with(other api.Books) *books {
	return &books{other, b.knowledge, map[right]ruling{}}
}

// build makes the board, and returns its error.
func (b *books) build() api.Errno {
	if !b.isBuilt {
		b.isBuilt = true
		b.board, b.fault = match.Build(b.Season, b.Winds, b.Papers, b.Reports, b.known)
	}
	return b.fault
}

// hasAssignment reports whether there is an assignment, on a board that was built.
func (b *books) hasAssignment() bool {
	if !b.isTried {
		b.isTried = true
		chances, e := match.Chances(b.board)
		b.chances, b.isPossible = chances, e == api.OK
	}
	return b.isPossible
}

// parcelOf returns a parcel.
func (b *books) parcelOf(id int) (api.Parcel, api.Errno) {
	i, is := b.indexOf(id)
	if !is {
		return api.Parcel{}, api.ErrParcel
	}
	return b.parcels[i], api.OK
}

// indexOf returns where a parcel stands in the order of the Ids, and whether there is one.
func (b *books) indexOf(id int) (int, bool) {
	return slices.BinarySearchFunc(b.parcels, id, func(p api.Parcel, id int) int { return p.Id - id })
}

// originsOf returns the finds that a parcel comes from, ascending.
func (b *books) originsOf(parcel int) ([]api.Parcel, api.Errno) {
	if _, e := b.parcelOf(parcel); e != api.OK {
		return nil, e
	}
	out, is := b.origins[parcel]
	if !is {
		ids, _ := find.Origins(b.Reports, b.known, parcel)
		for _, id := range ids {
			p, _ := b.parcelOf(id)
			out = append(out, p)
		}
		b.origins[parcel] = out
	}
	return out, api.OK
}

// findOf returns the index of a find of the board; ErrNone if a parcel is none.
func (b *books) findOf(parcel int) (int, api.Errno) {
	i, is := slices.BinarySearch(b.board.Finds, parcel)
	if !is {
		return 0, api.ErrNone
	}
	return i, api.OK
}

// slotOf returns the index of a slot, or the error of the board, or ErrNone if there is no such slot.
func (b *books) slotOf(loss, pack int) (int, api.Errno) {
	if e := b.build(); e != api.OK {
		return 0, e
	}
	i := slices.IndexFunc(b.board.Slots, func(x api.Slot) bool { return x.Loss == loss && x.Pack == pack })
	if i < 0 {
		return 0, api.ErrNone
	}
	return i, api.OK
}

// yearBehind returns the hour that is a year behind the Hour of a find of the board.
func (b *books) yearBehind(i int) int {
	p, _ := b.parcelOf(b.board.Finds[i])
	return p.Hour + api.YearDay
}

// deadline returns the deadline of a slot.
func (b *books) deadline(slot int) int {
	var hours []int
	for i, slots := range b.board.Fits {
		if slices.Contains(slots, slot) {
			hours = append(hours, b.yearBehind(i))
		}
	}
	if len(hours) == 0 {
		return noDeadline
	}
	return slices.Min(hours)
}

// titles returns the titles of a slot at an hour.
func (b *books) titles(slot, hour int) ([]api.Title, api.Errno) {
	asked := right{slot, hour}
	r, is := b.rulings[asked]
	if !is {
		x := b.board.Slots[slot]
		paper, _ := cargo.PaperOf(b.Papers, b.known, x.Loss, x.Pack)
		r.titles, r.fault = claim.Titles(b.Deeds, x.Loss, x.Pack, paper.Owner, b.known, hour, b.deadline(slot))
		b.rulings[asked] = r
	}
	return r.titles, r.fault
}

// Board returns the board of books at an hour of knowledge.
func Board(b api.Books, known int) (api.Board, api.Errno) {
	x, e := open(b, known)
	if e != api.OK {
		return api.Board{}, e
	}
	e = x.build()
	return x.board, e
}

// Deadline returns the deadline of a slot.
func Deadline(b api.Books, known, loss, pack int) (int, api.Errno) {
	x, e := open(b, known)
	if e != api.OK {
		return 0, e
	}
	slot, e := x.slotOf(loss, pack)
	if e != api.OK {
		return 0, e
	}
	return x.deadline(slot), api.OK
}

// TitlesOf returns the titles of a slot at an hour.
func TitlesOf(b api.Books, known, loss, pack, hour int) ([]api.Title, api.Errno) {
	x, e := open(b, known)
	if e != api.OK {
		return nil, e
	}
	slot, e := x.slotOf(loss, pack)
	if e != api.OK {
		return nil, e
	}
	return x.titles(slot, hour)
}
