package inquiry

import (
	"slices"
	"strings"

	"lagan/api"
	"lagan/award"
	"lagan/cargo"
	"lagan/claim"
	"lagan/drift"
	"lagan/find"
	"lagan/match"
	"lagan/post"
	"lagan/purse"
)

// The words that the texts of records begin with.
const (
	paperWord   = "paper"
	windWord    = "wind"
	reportWord  = "report"
	deedWord    = "deed"
	rateWord    = "rate"
	saleWord    = "sale"
	postingWord = "posting"
)

// CheckBooks returns the first error of books.
func CheckBooks(b api.Books) api.Errno {
	_, papers := cargo.Check(b.Papers)
	_, winds := drift.Check(b.Winds)
	_, reports := find.Check(b.Reports)
	_, deeds := claim.Check(b.Deeds)
	_, rates := award.CheckRates(b.Rates)
	_, sales := award.CheckSales(b.Sales)
	_, postings := purse.Check(b.Postings)
	return firstOf(match.CheckSeason(b.Season), papers, winds, reports, deeds, rates, sales, postings)
}

// copied returns books that share no memory with others.
func copied(b api.Books) api.Books {
	c := api.Books{
		Season:   copiedSeason(b.Season),
		Papers:   slices.Clone(b.Papers),
		Winds:    slices.Clone(b.Winds),
		Reports:  slices.Clone(b.Reports),
		Deeds:    slices.Clone(b.Deeds),
		Rates:    slices.Clone(b.Rates),
		Sales:    slices.Clone(b.Sales),
		Postings: slices.Clone(b.Postings),
	}
	for i, x := range c.Reports {
		c.Reports[i].Parts = slices.Clone(x.Parts)
	}
	return c
}

func copiedSeason(c api.Season) api.Season {
	c.Sea.Heights = slices.Clone(c.Sea.Heights)
	c.Sea.Tides = slices.Clone(c.Sea.Tides)
	c.Losses = slices.Clone(c.Losses)
	c.Floats = slices.Clone(c.Floats)
	return c
}

// Enter returns books with a record entered.
func Enter(b api.Books, x api.Record) (api.Books, api.Errno) {
	if e := CheckBooks(b); e != api.OK {
		return api.Books{}, e
	}
	c := copied(b)
	if e := enter(&c, x); e != api.OK {
		return api.Books{}, e
	}
	return c, api.OK
}

// enter enters a record into valid books; one that is refused does nothing.
func enter(b *api.Books, x api.Record) api.Errno {
	if e := post.CheckRecord(api.MaxStations, x); e != api.OK {
		return e
	}
	word, rest, _ := strings.Cut(x.Text, " ")
	id := post.IdOf(api.Ref{Station: x.Station, Number: x.Number})
	line := strings.Join(append(numerals([]int{id, x.Hour}), rest), " ")
	add, is := entryOf(b, word, line)
	if !is {
		return api.ErrWord
	}
	if word == postingWord && x.Station != receiver {
		return api.ErrState
	}
	return add()
}

// entryOf returns what appends to books what a line says of which a word tells the layer, and whether it has a form.
func entryOf(b *api.Books, word, line string) (add func() api.Errno, is bool) {
	switch word {
	case paperWord:
		return entry(&b.Papers, line, cargo.Read, cargo.Append)
	case windWord:
		return entry(&b.Winds, line, drift.Read, drift.Append)
	case reportWord:
		return entry(&b.Reports, line, find.Read, find.Append)
	case deedWord:
		return entry(&b.Deeds, line, claim.Read, claim.Append)
	case rateWord:
		return entry(&b.Rates, line, award.ReadRate, award.AppendRate)
	case saleWord:
		return entry(&b.Sales, line, award.ReadSale, award.AppendSale)
	case postingWord:
		return entry(&b.Postings, line, purse.Read, purse.Append)
	}
	return nil, false
}

// entry returns what appends to a list what a line says, and whether the line can be read.
func entry[T any](l *[]T, line string, read func(string) (T, api.Errno), appended func([]T, T) ([]T, api.Errno)) (add func() api.Errno, is bool) {
	x, e := read(line)
	if e != api.OK {
		return nil, false
	}
	return func() api.Errno {
		longer, e := appended(*l, x)
		if e == api.OK {
			*l = longer
		}
		return e
	}, true
}

// page is a record, the error with which it was refused, and the books behind it. Lists of books behind later records
// begin with those of books behind earlier ones.
type page struct {
	record api.Record
	e      api.Errno
	books  api.Books
}

// pagesOf returns the pages of the records of n stations, in the one order.
func pagesOf(c api.Season, n int, l []api.Record) ([]page, api.Errno) {
	if e := match.CheckSeason(c); e != api.OK {
		return nil, e
	}
	ordered, e := post.Order(n, l)
	if e != api.OK {
		return nil, e
	}
	b := api.Books{Season: copiedSeason(c)}
	var out []page
	for _, x := range ordered {
		e := enter(&b, x)
		out = append(out, page{x, e, b})
	}
	return out, api.OK
}

// Told returns the books of the records of n stations, and for each record in the one order the error of Enter.
func Told(c api.Season, n int, l []api.Record) (api.Books, []api.Errno, api.Errno) {
	pages, e := pagesOf(c, n, l)
	if e != api.OK {
		return api.Books{}, nil, e
	}
	b := api.Books{Season: copiedSeason(c)}
	var errors []api.Errno
	for _, p := range pages {
		b = p.books
		errors = append(errors, p.e)
	}
	return b, errors, api.OK
}
