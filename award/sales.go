package award

import (
	"slices"

	"lagan/api"
)

// Numbers of parcels.
const (
	minParcel = 10
	maxParcel = 10*api.MaxId + api.MaxDivide - 1
)

func recordOfSale(x api.Sale) record {
	return record{id: x.Id, known: x.Known, of: x.Of, parcel: x.Parcel}
}

// CheckSale returns ErrArg for a record that is not well-formed.
func CheckSale(x api.Sale) api.Errno {
	r := recordOfSale(x)
	formed := isSaleFormed(x)
	if r.isVoid() {
		formed = x == api.Sale{Id: x.Id, Known: x.Known, Of: x.Of}
	}
	if !formed || !r.isFormed() {
		return api.ErrArg
	}
	return api.OK
}

// isSaleFormed reports whether the fields are as said that a sale has beside its Id, Known and Of.
func isSaleFormed(x api.Sale) bool {
	return within(x.Hour, 0, x.Known) &&
		within(x.Parcel, minParcel, maxParcel) &&
		within(x.Price, 1, api.MaxMoney) &&
		(x.Carter == nobody || isParty(x.Carter)) &&
		(x.Keeper == nobody && x.Since == 0 || isParty(x.Keeper) && within(x.Since, 0, x.Hour))
}

// CheckSales returns 0 and OK for a valid list, and otherwise the index of the first record that is refused, and its
// error.
func CheckSales(l []api.Sale) (int, api.Errno) {
	return check(l, api.MaxSales, CheckSale, recordOfSale)
}

func checkSales(l []api.Sale) api.Errno {
	_, e := CheckSales(l)
	return e
}

// AppendSale returns a list with a record at its end.
func AppendSale(l []api.Sale, x api.Sale) ([]api.Sale, api.Errno) {
	return appended(l, x, CheckSales)
}

// SaleOf returns the counting sale of a parcel.
func SaleOf(l []api.Sale, parcel, known int) (api.Sale, api.Errno) {
	if e := checkSales(l); e != api.OK {
		return api.Sale{}, e
	}
	for x := range counting(l, known, recordOfSale) {
		if x.Parcel == parcel {
			return x, api.OK
		}
	}
	return api.Sale{}, api.ErrSold
}

// Sold returns, in ascending order, the parcels that counting sales have.
func Sold(l []api.Sale, known int) []int {
	if checkSales(l) != api.OK {
		return nil
	}
	var parcels []int
	for x := range counting(l, known, recordOfSale) {
		parcels = append(parcels, x.Parcel)
	}
	slices.Sort(parcels)
	return parcels
}

// Value returns what parcels were sold for together.
func Value(l []api.Sale, parcels []int, known int) (int, api.Errno) {
	if e := checkSales(l); e != api.OK {
		return 0, e
	}
	if len(parcels) > api.MaxSales {
		return 0, api.ErrLimit
	}
	if isTwice(parcels) {
		return 0, api.ErrTwice
	}
	prices := map[int]int{}
	for x := range counting(l, known, recordOfSale) {
		prices[x.Parcel] = x.Price
	}
	sum := 0
	for _, parcel := range parcels {
		if prices[parcel] == 0 {
			return 0, api.ErrSold
		}
		sum += prices[parcel]
	}
	// So many prices are never so much, but the chapter names this error.
	if sum > api.MaxNum {
		return 0, api.ErrLimit
	}
	return sum, api.OK
}

// isTwice reports whether a list has some number more than once.
func isTwice(l []int) bool {
	seen := map[int]bool{}
	for _, n := range l {
		if seen[n] {
			return true
		}
		seen[n] = true
	}
	return false
}
