package purse_test

import (
	"math/rand/v2"
	"slices"
	"testing"

	"lagan/api"
	"lagan/purse"
)

// The model says what chapter 7 says, as directly as possible, and slowly.

// postings returns the postings with some lines, which need not be a book.
func postings(t testing.TB, lines ...string) []api.Posting {
	t.Helper()
	var l []api.Posting
	for _, s := range lines {
		p, e := purse.Read(s)
		if e != api.OK {
			t.Fatalf("reading %q: error %d", s, e)
		}
		l = append(l, p)
	}
	return l
}

// book returns the postings with some lines, which are a book.
func book(t testing.TB, lines ...string) []api.Posting {
	t.Helper()
	l := postings(t, lines...)
	if i, e := purse.Check(l); i != 0 || e != api.OK {
		t.Fatalf("checking %q: %d, error %d", lines, i, e)
	}
	return l
}

// sample is the list l of the chapter's examples, and what is behind it.
func sample(t testing.TB, more ...string) []api.Posting {
	t.Helper()
	return book(t, append([]string{
		"1 5 sale 10 1000 3 4", "2 6 pay 7 10 400 4 5", "3 9 pay 8 10 100 4 5", "4 12 back 7 10 150 9 11",
	}, more...)...)
}

func due(parcel, party, amount int) api.Due {
	return api.Due{Party: party, Parcel: parcel, Amount: amount}
}

func cause(parcel, reason, known int) api.Cause {
	return api.Cause{Parcel: parcel, Reason: reason, Known: known}
}

// same checks that slices have the same items.
func same[T comparable](t testing.TB, what string, got, want []T) {
	t.Helper()
	if !slices.Equal(got, want) {
		t.Errorf("%s: %+v, want %+v", what, got, want)
	}
}

// modelHas returns what a party has for a parcel.
func modelHas(l []api.Posting, party, parcel int) int {
	n := 0
	for _, p := range l {
		if p.Party == party && p.Parcel == parcel && p.Kind == 2 {
			n += p.Amount
		}
		if p.Party == party && p.Parcel == parcel && p.Kind == 3 {
			n -= p.Amount
		}
	}
	return n
}

// modelSold returns what a parcel was sold for; 0 if it was not.
func modelSold(l []api.Posting, parcel int) int {
	for _, p := range l {
		if p.Parcel == parcel && p.Kind == 1 {
			return p.Amount
		}
	}
	return 0
}

// modelPaid returns what is paid for a parcel.
func modelPaid(l []api.Posting, parcel int) int {
	n := 0
	for party := range 41 {
		n += modelHas(l, party, parcel)
	}
	return n
}

func modelHeld(l []api.Posting, parcel int) int { return modelSold(l, parcel) - modelPaid(l, parcel) }

// modelLast returns the last payment to a party for a parcel, and whether there is one.
func modelLast(l []api.Posting, party, parcel int) (api.Posting, bool) {
	for _, p := range slices.Backward(l) {
		if p.Kind == 2 && p.Party == party && p.Parcel == parcel {
			return p, true
		}
	}
	return api.Posting{}, false
}

// modelKnown returns the Known of the last payment to a party for a parcel; -1 if there is none.
func modelKnown(l []api.Posting, party, parcel int) int {
	if p, is := modelLast(l, party, parcel); is {
		return p.Known
	}
	return -1
}

// modelRefusal returns the error of a posting behind a book.
func modelRefusal(l []api.Posting, p api.Posting) api.Errno {
	switch {
	case len(l) >= 400:
		return api.ErrLimit
	case p.Id < 1 || p.Id > 1000000 || p.Reason < 1 || p.Reason > 1000000 || p.Hour < 0 || p.Hour > 1000000,
		p.Known < 0 || p.Known > p.Hour || p.Parcel < 10 || p.Parcel > 10000007 || p.Amount < 1 || p.Amount > 1000000000,
		p.Party < 0 || p.Party > 40 || p.Kind < 1 || p.Kind > 3 || p.Kind == 1 && p.Party != 0:
		return api.ErrArg
	case slices.ContainsFunc(l, func(q api.Posting) bool { return q.Id == p.Id }):
		return api.ErrTwice
	case len(l) > 0 && p.Hour < l[len(l)-1].Hour:
		return api.ErrTime
	case p.Kind == 1 && modelSold(l, p.Parcel) > 0:
		return api.ErrTwice
	case p.Kind != 1 && modelSold(l, p.Parcel) == 0:
		return api.ErrNone
	case p.Kind == 2 && p.Amount > modelHeld(l, p.Parcel), p.Kind == 3 && p.Amount > modelHas(l, p.Party, p.Parcel):
		return api.ErrPoor
	case p.Kind == 3 && p.Known <= modelKnown(l, p.Party, p.Parcel):
		return api.ErrReason
	}
	return api.OK
}

// modelCheck returns what Check should return.
func modelCheck(l []api.Posting) (int, api.Errno) {
	for i, p := range l {
		if e := modelRefusal(l[:i], p); e != api.OK {
			return i, e
		}
	}
	return 0, api.OK
}

// modelDue returns what is due to a party for a parcel.
func modelDue(d []api.Due, party, parcel int) int {
	for _, x := range d {
		if x.Party == party && x.Parcel == parcel {
			return x.Amount
		}
	}
	return 0
}

// modelCause returns the cause of a parcel, and whether there is one.
func modelCause(c []api.Cause, parcel int) (api.Cause, bool) {
	i := slices.IndexFunc(c, func(x api.Cause) bool { return x.Parcel == parcel })
	if i < 0 {
		return api.Cause{}, false
	}
	return c[i], true
}

// The random lists have parcels less than this one, and parties less than that one.
const (
	someParcels = 18
	someParties = 5
)

// modelOver returns what Over should return.
func modelOver(l []api.Posting, d []api.Due) []api.Due {
	var out []api.Due
	for parcel := range someParcels {
		for party := range someParties {
			if more := modelHas(l, party, parcel) - modelDue(d, party, parcel); more > 0 {
				out = append(out, due(parcel, party, more))
			}
		}
	}
	return out
}

// modelOpen returns what Open should return.
func modelOpen(l []api.Posting, d []api.Due) []api.Due {
	var out []api.Due
	for _, x := range d {
		if has := modelHas(l, x.Party, x.Parcel); x.Amount > has {
			out = append(out, due(x.Parcel, x.Party, x.Amount-has))
		}
	}
	return out
}

// modelSettle returns what Settle should return, but for its limits.
func modelSettle(l []api.Posting, d []api.Due, c []api.Cause, hour int) []api.Posting {
	before := len(l)
	l = slices.Clone(l)
	add := func(kind uint8, party, parcel, amount int, x api.Cause) {
		id := 1
		for _, p := range l {
			id = max(id, p.Id+1)
		}
		l = append(l, api.Posting{Id: id, Hour: hour, Kind: kind, Party: party, Parcel: parcel, Amount: amount, Reason: x.Reason, Known: x.Known})
	}
	for parcel := range someParcels {
		for party := range someParties {
			more := modelHas(l, party, parcel) - modelDue(d, party, parcel)
			x, is := modelCause(c, parcel)
			if more > 0 && is && x.Known <= hour && x.Known > modelKnown(l, party, parcel) {
				add(3, party, parcel, more, x)
			}
		}
	}
	for _, y := range d {
		less := y.Amount - modelHas(l, y.Party, y.Parcel)
		x, is := modelCause(c, y.Parcel)
		if held := modelHeld(l, y.Parcel); less > 0 && is && x.Known <= hour && held > 0 {
			add(2, y.Party, y.Parcel, min(less, held), x)
		}
	}
	return l[before:]
}

// modelCovered returns what Covered should return.
func modelCovered(l []api.Posting, d []api.Due) []int {
	var out []int
	for parcel := range someParcels {
		all := 0
		for _, x := range d {
			if x.Parcel == parcel {
				all += x.Amount
			}
		}
		if all > modelSold(l, parcel) {
			out = append(out, parcel)
		}
	}
	return out
}

// randomPosting returns a posting behind a book, which need not be possible behind it, and seldom is not well-formed.
func randomPosting(r *rand.Rand, l []api.Posting) api.Posting {
	hour := 0
	if len(l) > 0 {
		hour = l[len(l)-1].Hour
	}
	p := api.Posting{
		Id: 1 + r.IntN(90), Hour: max(hour+r.IntN(6)-1, 0), Kind: uint8(1 + r.IntN(3)), Party: r.IntN(someParties),
		Parcel: 10 + r.IntN(4), Amount: 1 + r.IntN(30), Reason: 1 + r.IntN(9),
	}
	p.Known = max(p.Hour-r.IntN(6), 0)
	if p.Kind == 1 {
		p.Party, p.Amount = 0, 1+r.IntN(90)
	}
	if p.Kind == 3 && r.IntN(2) == 0 {
		p.Amount, p.Known = max(modelHas(l, p.Party, p.Parcel), 1), max(p.Hour-r.IntN(20), 0)
	}
	if r.IntN(40) == 0 {
		*[]*int{&p.Id, &p.Hour, &p.Party, &p.Parcel, &p.Amount, &p.Reason, &p.Known}[r.IntN(7)] = []int{-1, 0, 1000000001}[r.IntN(3)]
	}
	return p
}

// randomBook returns a book of at most so many postings.
func randomBook(r *rand.Rand, tries int) []api.Posting {
	var l []api.Posting
	for range tries {
		if p := randomPosting(r, l); modelRefusal(l, p) == api.OK {
			l = append(l, p)
		}
	}
	return l
}

// randomDues returns dues, some of which are what parties have.
func randomDues(r *rand.Rand, l []api.Posting) []api.Due {
	var d []api.Due
	for parcel := 10; parcel < 15; parcel++ {
		for party := range someParties {
			switch r.IntN(4) {
			case 0:
				d = append(d, due(parcel, party, r.IntN(40)))
			case 1:
				d = append(d, due(parcel, party, modelHas(l, party, parcel)))
			}
		}
	}
	return d
}

// randomCauses returns causes that are known by about an hour.
func randomCauses(r *rand.Rand, hour int) []api.Cause {
	var c []api.Cause
	for parcel := 10; parcel < 16; parcel++ {
		if r.IntN(4) > 0 {
			c = append(c, cause(parcel, 1+r.IntN(99), max(hour+2-r.IntN(12), 0)))
		}
	}
	return c
}

// lastHour returns the Hour of the last posting.
func lastHour(l []api.Posting) int {
	if len(l) == 0 {
		return 0
	}
	return l[len(l)-1].Hour
}
