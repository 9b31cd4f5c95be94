package purse

import (
	"maps"
	"slices"

	"lagan/api"
)

// Sold returns what a parcel was sold for.
func Sold(l []api.Posting, parcel int) (int, api.Errno) {
	g, _, e := ledgerOf(l)
	if e != api.OK {
		return 0, e
	}
	if !isParcel(parcel) {
		return 0, api.ErrArg
	}
	if !g.isSold(parcel) {
		return 0, api.ErrNone
	}
	return g.sold[parcel], api.OK
}

// ledgerFor returns the ledger of a book, and the account of a party for a parcel.
func ledgerFor(l []api.Posting, party, parcel int) (*ledger, account, api.Errno) {
	g, _, e := ledgerOf(l)
	if e != api.OK {
		return nil, account{}, e
	}
	if !isPartyOrCrown(party) || !isParcel(parcel) {
		return nil, account{}, api.ErrArg
	}
	return g, account{party: party, parcel: parcel}, api.OK
}

// Has returns what a party has for a parcel.
func Has(l []api.Posting, party, parcel int) (int, api.Errno) {
	g, a, e := ledgerFor(l, party, parcel)
	if e != api.OK {
		return 0, e
	}
	return g.has[a], api.OK
}

// Held returns what is held for all parcels together.
func Held(l []api.Posting) (int, api.Errno) {
	g, _, e := ledgerOf(l)
	if e != api.OK {
		return 0, e
	}
	return sum(slices.Collect(maps.Values(g.held))...), api.OK
}

// HeldOf returns what is held for a parcel.
func HeldOf(l []api.Posting, parcel int) (int, api.Errno) {
	g, _, e := ledgerOf(l)
	if e != api.OK {
		return 0, e
	}
	if !isParcel(parcel) {
		return 0, api.ErrArg
	}
	return g.held[parcel], api.OK
}

// Balances returns what each party was paid, and what came back from it, by ascending parties.
func Balances(l []api.Posting) []api.Balance {
	var all [api.MaxParty + 1]api.Balance
	for p := range those(l, isNoSale) {
		b := &all[p.Party]
		b.Party = p.Party
		if p.Kind == api.PostPay {
			b.Paid += p.Amount
		} else {
			b.Back += p.Amount
		}
	}
	return slices.DeleteFunc(all[:], func(b api.Balance) bool { return b.Paid == 0 })
}

func isNoSale(p api.Posting) bool { return p.Kind != api.PostSale }

// Parcels returns the parcels that were sold, ascending.
func Parcels(l []api.Posting) []int {
	g, _, e := ledgerOf(l)
	if e != api.OK {
		return nil
	}
	return slices.Sorted(maps.Keys(g.sold))
}

// Holders returns what each party has for a parcel, by ascending parties.
func Holders(l []api.Posting, parcel int) []api.Due {
	g, _, e := ledgerOf(l)
	if e != api.OK {
		return nil
	}
	return slices.DeleteFunc(g.holdings(), func(x api.Due) bool { return x.Parcel != parcel })
}

// Reasons returns the Reasons of the payments and clawbacks of a party for a parcel, in their order.
func Reasons(l []api.Posting, party, parcel int) ([]int, api.Errno) {
	_, a, e := ledgerFor(l, party, parcel)
	if e != api.OK {
		return nil, e
	}
	var reasons []int
	for p := range those(l, func(p api.Posting) bool { return isNoSale(p) && accountOf(p) == a }) {
		reasons = append(reasons, p.Reason)
	}
	return reasons, api.OK
}

// LastPay returns the last payment to a party for a parcel, and whether there is one.
func LastPay(l []api.Posting, party, parcel int) (last api.Posting, is bool, e api.Errno) {
	_, a, e := ledgerFor(l, party, parcel)
	if e != api.OK {
		return api.Posting{}, false, e
	}
	for p := range those(l, func(p api.Posting) bool { return p.Kind == api.PostPay && accountOf(p) == a }) {
		last, is = p, true
	}
	return last, is, api.OK
}
