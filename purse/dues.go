package purse

import (
	"cmp"
	"maps"
	"slices"

	"lagan/api"
)

// mostItems is how many dues there can be, and how many causes.
const mostItems = 400

// checkItems returns the error of a list of well-formed items in strictly ascending order.
func checkItems[T any](l []T, isFormed func(T) bool, compare func(a, b T) int) api.Errno {
	if len(l) > mostItems {
		return api.ErrLimit
	}
	for i, x := range l {
		if !isFormed(x) || i > 0 && compare(l[i-1], x) >= 0 {
			return api.ErrArg
		}
	}
	return api.OK
}

func accountOfDue(x api.Due) account { return account{party: x.Party, parcel: x.Parcel} }

// CheckDues returns the error of a list of dues.
func CheckDues(d []api.Due) api.Errno {
	return checkItems(d, func(x api.Due) bool {
		return isPartyOrCrown(x.Party) && isParcel(x.Parcel) && within(x.Amount, 0, api.MaxMoney)
	}, func(a, b api.Due) int {
		return compareAccounts(accountOfDue(a), accountOfDue(b))
	})
}

// CheckCauses returns the error of a list of causes.
func CheckCauses(c []api.Cause) api.Errno {
	return checkItems(c, func(x api.Cause) bool {
		return isParcel(x.Parcel) && isId(x.Reason) && isHour(x.Known)
	}, func(a, b api.Cause) int {
		return cmp.Compare(a.Parcel, b.Parcel)
	})
}

// ledgerWith returns the ledger of a book, if there are dues beside it.
func ledgerWith(l []api.Posting, d []api.Due) (*ledger, api.Errno) {
	g, _, e := ledgerOf(l)
	if e != api.OK {
		return nil, e
	}
	if e := CheckDues(d); e != api.OK {
		return nil, e
	}
	return g, api.OK
}

// open returns what is still to be paid, in the order of the dues.
func (g *ledger) open(d []api.Due) []api.Due {
	var out []api.Due
	for _, x := range d {
		x.Amount -= g.has[accountOfDue(x)]
		if x.Amount > 0 {
			out = append(out, x)
		}
	}
	return out
}

// over returns by how much parties have more than is due to them, by ascending parcels, then parties.
func (g *ledger) over(d []api.Due) []api.Due {
	due := map[account]int{}
	for _, x := range d {
		due[accountOfDue(x)] = x.Amount
	}
	var out []api.Due
	for _, x := range g.holdings() {
		x.Amount -= due[accountOfDue(x)]
		if x.Amount > 0 {
			out = append(out, x)
		}
	}
	return out
}

// Open returns what is still to be paid, in the order of the dues.
func Open(l []api.Posting, d []api.Due) ([]api.Due, api.Errno) {
	g, e := ledgerWith(l, d)
	if e != api.OK {
		return nil, e
	}
	return g.open(d), api.OK
}

// Over returns by how much parties have more than is due to them, by ascending parcels, then parties.
func Over(l []api.Posting, d []api.Due) ([]api.Due, api.Errno) {
	g, e := ledgerWith(l, d)
	if e != api.OK {
		return nil, e
	}
	return g.over(d), api.OK
}

// Settled reports whether every party has for every parcel just what is due.
func Settled(l []api.Posting, d []api.Due) (bool, api.Errno) {
	g, e := ledgerWith(l, d)
	if e != api.OK {
		return false, e
	}
	return len(g.open(d)) == 0 && len(g.over(d)) == 0, api.OK
}

// Covered returns, ascending, the parcels for which more is due altogether than they were sold for.
func Covered(l []api.Posting, d []api.Due) ([]int, api.Errno) {
	g, e := ledgerWith(l, d)
	if e != api.OK {
		return nil, e
	}
	amounts := map[int][]int{}
	for _, x := range d {
		amounts[x.Parcel] = append(amounts[x.Parcel], x.Amount)
	}
	var parcels []int
	for _, parcel := range slices.Sorted(maps.Keys(amounts)) {
		if sum(amounts[parcel]...) > g.sold[parcel] {
			parcels = append(parcels, parcel)
		}
	}
	return parcels, api.OK
}
