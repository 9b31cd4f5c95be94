package purse

import "lagan/api"

// settlement is a book that is being settled at an hour.
type settlement struct {
	book   *ledger
	hour   int
	causes map[int]api.Cause // those that are known by the hour, by parcels
	made   []api.Posting
}

// Settle returns the postings that settling a book appends to it.
func Settle(l []api.Posting, d []api.Due, c []api.Cause, hour int) ([]api.Posting, api.Errno) {
	g, _, e := ledgerOf(l)
	if e != api.OK {
		return nil, e
	}
	if !isHour(hour) {
		return nil, api.ErrArg
	}
	if e := CheckDues(d); e != api.OK {
		return nil, e
	}
	if e := CheckCauses(c); e != api.OK {
		return nil, e
	}
	if hour < g.hour {
		return nil, api.ErrTime
	}
	s := settlement{book: g, hour: hour, causes: map[int]api.Cause{}}
	for _, x := range c {
		if x.Known <= hour {
			s.causes[x.Parcel] = x
		}
	}
	e = attempt(func() {
		s.clawBack(g.over(d))
		s.payOut(g.open(d))
	})
	if e != api.OK {
		return nil, e
	}
	return s.made, api.OK
}

// clawBack takes back what parties have more than is due, where a cause is later than the last payment.
func (s *settlement) clawBack(over []api.Due) {
	for _, x := range over {
		cause, is := s.causes[x.Parcel]
		if is && cause.Known > s.book.known[accountOfDue(x)] {
			s.post(api.PostBack, x, cause)
		}
	}
}

// payOut pays what is still to be paid, as far as it is held.
func (s *settlement) payOut(open []api.Due) {
	for _, x := range open {
		cause, is := s.causes[x.Parcel]
		x.Amount = min(x.Amount, s.book.held[x.Parcel])
		if is && x.Amount > 0 {
			s.post(api.PostPay, x, cause)
		}
	}
}

// post appends a posting to the book. It refuses one for which there is no room, or no Id.
func (s *settlement) post(kind uint8, x api.Due, cause api.Cause) {
	require(s.book.highest < api.MaxId, api.ErrLimit)
	p := api.Posting{
		Id: s.book.highest + 1, Hour: s.hour, Kind: kind,
		Party: x.Party, Parcel: x.Parcel, Amount: x.Amount,
		Reason: cause.Reason, Known: cause.Known,
	}
	s.book.enter(p)
	s.made = append(s.made, p)
}
