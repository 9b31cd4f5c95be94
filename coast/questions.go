package coast

import (
	"lagan/api"
	"lagan/inquiry"
	"lagan/purse"
)

// Ask returns the line of a question, with an answer by the books of a station, and its proof.
func (c *Coast) Ask(station int, question string) (string, api.Errno) {
	b, e := c.booksOf(station)
	if e != api.OK {
		return "", e
	}
	lines, errors, e := inquiry.Transcript(b, []string{question})
	if e != api.OK {
		return "", e
	}
	if errors[0] != api.OK {
		return "", errors[0]
	}
	return lines[0], api.OK
}

// Audit returns the error of a line of a question with its answer, by the books of a station.
func (c *Coast) Audit(station int, line string) api.Errno {
	b, e := c.booksOf(station)
	if e != api.OK {
		return e
	}
	_, e = inquiry.Audit(b, []string{line})
	return e
}

// Due returns what is due for a parcel at this hour, by the books of a station.
func (c *Coast) Due(station, parcel int) ([]api.Due, api.Errno) {
	b, e := c.booksOf(station)
	if e != api.OK {
		return nil, e
	}
	return inquiry.DuesOf(b, c.now, parcel, c.now)
}

// Held returns what is held for all parcels together, by the books of a station.
func (c *Coast) Held(station int) (int, api.Errno) {
	b, e := c.booksOf(station)
	if e != api.OK {
		return 0, e
	}
	return purse.Held(b.Postings)
}

// Has returns what a party has for a parcel, by the books of a station.
func (c *Coast) Has(station, party, parcel int) (int, api.Errno) {
	b, e := c.booksOf(station)
	if e != api.OK {
		return 0, e
	}
	return purse.Has(b.Postings, party, parcel)
}
