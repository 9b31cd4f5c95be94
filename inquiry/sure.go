package inquiry

import (
	"iter"
	"slices"

	"lagan/api"
	"lagan/claim"
)

// whole is all of a thing.
var whole = api.Frac{Num: 1, Den: 1}

// pairs yields finds of the board, each with each slot that it fits, in their order.
func (b *books) pairs(finds []int) iter.Seq2[int, int] {
	return func(yield func(find, slot int) bool) {
		for _, find := range finds {
			for _, slot := range b.board.Fits[find] {
				if !yield(find, slot) {
					return
				}
			}
		}
	}
}

// stakes returns the finds of the board that a parcel comes from, or the error of what is sure of it at an hour.
func (b *books) stakes(parcel, hour int) ([]int, api.Errno) {
	origins, e := b.originsOf(parcel)
	if e != api.OK {
		return nil, e
	}
	if e := b.build(); e != api.OK {
		return nil, e
	}
	var finds []int
	count := 0
	for _, p := range origins {
		// All finds are on a board that was built.
		find, _ := b.findOf(p.Id)
		finds = append(finds, find)
		count += max(len(b.board.Fits[find]), 1)
	}
	if count > api.MaxTerms {
		return nil, api.ErrLimit
	}
	for _, slot := range b.pairs(finds) {
		if _, e := b.titles(slot, hour); e != api.OK {
			return nil, e
		}
	}
	return finds, api.OK
}

// lots returns what can be had of finds at an hour, if assignments give them the slots that are said.
func (b *books) lots(finds []int, hour int, isGiven func(find, slot int) bool) [][]api.Title {
	var out [][]api.Title
	for find, slot := range b.pairs(finds) {
		if isGiven(find, slot) {
			// It was asked before, and is no error.
			titles, _ := b.titles(slot, hour)
			out = append(out, titles)
		}
	}
	for _, find := range finds {
		if len(b.board.Fits[find]) == 0 {
			out = append(out, b.strayed(find, hour))
		}
	}
	return out
}

// strayed returns what can be had at an hour of a find that fits no slot.
func (b *books) strayed(find, hour int) []api.Title {
	if b.yearBehind(find) < hour {
		return []api.Title{{Party: api.Crown, Share: whole}}
	}
	return nil
}

// had returns what can be had of finds at an hour: nothing if there is no assignment.
func (b *books) had(finds []int, hour int) [][]api.Title {
	if !b.hasAssignment() {
		return nil
	}
	return b.lots(finds, hour, func(find, slot int) bool { return slices.Contains(b.chances[find], slot) })
}

// sureOf returns what is sure if something of what can be had is so.
func sureOf(lots [][]api.Title) []api.Title {
	// There are at most so many lists, and each is one of titles.
	common, _ := claim.Common(lots)
	var parts []api.Frac
	for _, x := range common {
		parts = append(parts, x.Share)
	}
	if _, e := claim.Sum(parts); e != api.OK {
		return nil
	}
	return common
}

// lotsOf returns what can be had of a parcel at an hour.
func lotsOf(b api.Books, known, parcel, hour int) ([][]api.Title, api.Errno) {
	x, e := open(b, known)
	if e != api.OK {
		return nil, e
	}
	finds, e := x.stakes(parcel, hour)
	if e != api.OK {
		return nil, e
	}
	return x.had(finds, hour), api.OK
}

// Sure returns what is sure of a parcel at an hour.
func Sure(b api.Books, known, parcel, hour int) ([]api.Title, api.Errno) {
	lots, e := lotsOf(b, known, parcel, hour)
	return sureOf(lots), e
}

// Perhaps returns what is perhaps had of a parcel at an hour.
func Perhaps(b api.Books, known, parcel, hour int) ([]api.Title, api.Errno) {
	lots, e := lotsOf(b, known, parcel, hour)
	if e != api.OK {
		return nil, e
	}
	return claim.Greatest(lots)
}
