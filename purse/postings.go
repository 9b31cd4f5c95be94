package purse

import (
	"iter"
	"slices"

	"lagan/api"
)

// CheckPosting returns ErrArg for a posting that is not well-formed.
func CheckPosting(p api.Posting) api.Errno {
	formed := isId(p.Id) &&
		isId(p.Reason) &&
		isHour(p.Hour) &&
		within(p.Known, 0, p.Hour) &&
		isParcel(p.Parcel) &&
		within(p.Amount, 1, api.MaxMoney) &&
		isPartyOfKind(p.Party, p.Kind)
	if !formed {
		return api.ErrArg
	}
	return api.OK
}

// isPartyOfKind reports whether a posting of a kind can have a party.
func isPartyOfKind(party int, kind uint8) bool {
	switch kind {
	case api.PostSale:
		return party == 0
	case api.PostPay, api.PostBack:
		return isPartyOrCrown(party)
	}
	return false
}

// Check returns 0 and OK for a book, and otherwise the index of the first posting that is refused, and its error.
func Check(l []api.Posting) (int, api.Errno) {
	_, index, e := ledgerOf(l)
	return index, e
}

// Append returns a book with a posting at its end.
func Append(l []api.Posting, p api.Posting) ([]api.Posting, api.Errno) {
	longer := make([]api.Posting, 0, len(l)+1)
	longer = append(longer, l...)
	longer = append(longer, p)
	if _, e := Check(longer); e != api.OK {
		return nil, e
	}
	return longer, api.OK
}

// those yields the postings of a book that are as asked, in their order; none of a list that is no book.
func those(l []api.Posting, is func(api.Posting) bool) iter.Seq[api.Posting] {
	return func(yield func(api.Posting) bool) {
		if _, e := Check(l); e != api.OK {
			return
		}
		for _, p := range l {
			if is(p) && !yield(p) {
				return
			}
		}
	}
}

// Upto returns the postings that were made by an hour, in their order.
func Upto(l []api.Posting, hour int) []api.Posting {
	return slices.Collect(those(l, func(p api.Posting) bool { return p.Hour <= hour }))
}

// OfParcel returns the postings for a parcel, in their order.
func OfParcel(l []api.Posting, parcel int) []api.Posting {
	return slices.Collect(those(l, func(p api.Posting) bool { return p.Parcel == parcel }))
}
