package inquiry

import (
	"cmp"
	"maps"
	"slices"

	"lagan/api"
	"lagan/match"
	"lagan/post"
)

// Causes returns, for each parcel that was sold, the last record that changed what is due for it at an hour.
func Causes(c api.Season, n int, l []api.Record, known, hour int) ([]api.Cause, api.Errno) {
	if e := match.CheckSeason(c); e != api.OK {
		return nil, e
	}
	until, e := post.Until(n, l, known)
	if e != api.OK {
		return nil, e
	}
	pages, e := pagesOf(c, n, until)
	if e != api.OK {
		return nil, e
	}
	return causesOf(changing(pages), known, hour), api.OK
}

// changing returns the pages of the records that can change what is due: those that were entered, and are no postings.
func changing(pages []page) []page {
	var out []page
	postings := 0
	for _, p := range pages {
		if p.e == api.OK && len(p.books.Postings) == postings {
			out = append(out, p)
		}
		postings = len(p.books.Postings)
	}
	return out
}

// causesOf returns the causes at an hour, as known at an hour, by ascending parcels.
func causesOf(pages []page, known, hour int) []api.Cause {
	if len(pages) == 0 {
		return nil
	}
	x := newBooks(pages[len(pages)-1].books, known)
	due := map[int][]api.Due{} // for the parcels whose cause is not found yet
	for _, s := range x.Sales {
		if s.Of == 0 {
			due[s.Parcel], _ = x.dues(s.Parcel, hour)
		}
	}
	var out []api.Cause
	for i := len(pages) - 1; i >= 0 && len(due) > 0; i-- {
		before := api.Books{Season: x.Season}
		if i > 0 {
			before = pages[i-1].books
		}
		x = x.back(before)
		for _, parcel := range slices.Sorted(maps.Keys(due)) {
			// Together with an error there are no dues.
			dues, _ := x.dues(parcel, hour)
			if !same(dues, due[parcel]) {
				out = append(out, causeOf(parcel, pages[i].record))
				delete(due, parcel)
			}
		}
	}
	slices.SortFunc(out, func(a, b api.Cause) int { return cmp.Compare(a.Parcel, b.Parcel) })
	return out
}

// back returns these books as they were before records were entered.
func (b *books) back(before api.Books) *books {
	if len(before.Papers) == len(b.Papers) && len(before.Winds) == len(b.Winds) && len(before.Reports) == len(b.Reports) {
		return b.with(before)
	}
	return newBooks(before, b.known)
}

func causeOf(parcel int, x api.Record) api.Cause {
	return api.Cause{Parcel: parcel, Reason: post.IdOf(api.Ref{Station: x.Station, Number: x.Number}), Known: x.Hour}
}
