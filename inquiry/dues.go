package inquiry

import (
	"slices"

	"lagan/api"
	"lagan/award"
)

// maxDues is how many dues are listed at most.
const maxDues = 400

// awardOf returns the award of a parcel.
func (b *books) awardOf(parcel int) (api.Award, api.Errno) {
	origins, e := b.originsOf(parcel)
	if e != api.OK {
		return api.Award{}, e
	}
	var finders, hours []int
	for _, p := range origins {
		finders = append(finders, p.Finder)
		hours = append(hours, p.Hour)
	}
	p, _ := b.parcelOf(parcel)
	return award.AwardOf(b.Rates, b.Sales, parcel, p.Goods, slices.Min(hours), b.known, finders)
}

// duesBy returns the dues for a parcel by its award, and by what is sure of it.
func duesBy(a api.Award, parcel int, sure []api.Title) []api.Due {
	// What is sure is never more than all, so that it can be divided by.
	shares, _, _ := award.Divide(a.Rest, sure)
	merged, _ := award.Merge(append(shares, a.Shares...))
	var out []api.Due
	for _, x := range merged {
		out = append(out, api.Due{Party: x.Party, Parcel: parcel, Amount: x.Pence})
	}
	return out
}

// dues returns the dues for a parcel at an hour.
func (b *books) dues(parcel, hour int) ([]api.Due, api.Errno) {
	a, e := b.awardOf(parcel)
	if e != api.OK {
		return nil, e
	}
	finds, e := b.stakes(parcel, hour)
	if e != api.OK {
		return nil, e
	}
	return duesBy(a, parcel, sureOf(b.had(finds, hour))), api.OK
}

// DuesOf returns the dues for a parcel at an hour.
func DuesOf(b api.Books, known, parcel, hour int) ([]api.Due, api.Errno) {
	x, e := open(b, known)
	if e != api.OK {
		return nil, e
	}
	return x.dues(parcel, hour)
}

// Dues returns the dues for all parcels that were sold, at an hour.
func Dues(b api.Books, known, hour int) ([]api.Due, api.Errno) {
	x, e := open(b, known)
	if e != api.OK {
		return nil, e
	}
	var out []api.Due
	for _, parcel := range award.Sold(b.Sales, known) {
		// Together with an error there are no dues.
		dues, _ := x.dues(parcel, hour)
		out = append(out, dues...)
	}
	if len(out) > maxDues {
		return nil, api.ErrLimit
	}
	return out, api.OK
}
