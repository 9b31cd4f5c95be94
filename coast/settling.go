package coast

import (
	"strings"

	"lagan/api"
	"lagan/award"
	"lagan/inquiry"
	"lagan/purse"
)

// settlement is what the receiver is going to write to settle what is due at an hour.
type settlement struct {
	books api.Books // with the sales that are going to be written
	hour  int
	next  int // the Number of the next record
	texts []string
}

// Settle lets the receiver write what settles what is due, and returns how many records it has written.
func (c *Coast) Settle() (int, api.Errno) {
	s, e := c.at(receiver)
	if e != api.OK {
		return 0, e
	}
	if s.isDown() {
		return 0, api.ErrDown
	}
	texts, e := c.settling(s)
	if e != api.OK {
		return 0, e
	}
	for _, text := range texts {
		if _, e := s.write(text, c.now); e != api.OK {
			return 0, e
		}
	}
	return len(texts), api.OK
}

// settling returns the texts of the records with which a station settles at this hour.
func (c *Coast) settling(s *station) ([]string, api.Errno) {
	l := s.Records()
	b, _, e := c.told(l)
	if e != api.OK {
		return nil, e
	}
	x := settlement{books: b, hour: c.now, next: len(s.Own()) + 1}
	x.sell()
	dues, e := inquiry.Dues(x.books, x.hour, x.hour)
	if e != api.OK {
		return nil, e
	}
	causes, e := inquiry.Causes(c.season, len(c.stations), l, x.hour, x.hour)
	if e != api.OK {
		return nil, e
	}
	postings, e := purse.Settle(x.books.Postings, dues, causes, x.hour)
	if e != api.OK {
		return nil, e
	}
	for _, p := range postings {
		x.texts = append(x.texts, textOf(p))
	}
	return x.texts, api.OK
}

// sell finds the sales that are not in the escrow book, and enters them.
func (x *settlement) sell() {
	for _, parcel := range award.Sold(x.books.Sales, x.hour) {
		if _, e := purse.Sold(x.books.Postings, parcel); e == api.OK {
			continue
		}
		// It is there: Sold returns the parcels of counting sales.
		s, _ := award.SaleOf(x.books.Sales, parcel, x.hour)
		x.enter(textOf(api.Posting{
			Id: s.Id, Hour: x.hour, Kind: api.PostSale,
			Parcel: parcel, Amount: s.Price,
			Reason: s.Id, Known: s.Known,
		}))
	}
}

// enter adds a text, and enters its record, which does nothing in the books if it is refused.
func (x *settlement) enter(text string) {
	record := api.Record{Station: receiver, Number: x.next, Hour: x.hour, Text: text}
	x.next++
	x.texts = append(x.texts, text)
	if b, e := inquiry.Enter(x.books, record); e == api.OK {
		x.books = b
	}
}

// textOf returns the text of the record of a posting, whose own Id and Hour are those of the record.
func textOf(p api.Posting) string {
	line, _ := purse.Write(p)
	_, line, _ = strings.Cut(line, " ")
	_, line, _ = strings.Cut(line, " ")
	return postingStart + line
}
