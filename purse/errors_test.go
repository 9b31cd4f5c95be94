package purse_test

import (
	"math"
	"slices"
	"testing"

	"lagan/api"
	"lagan/purse"
)

// calls are the functions with a book that return an error: what they do with dues, causes, a party, a parcel and an hour,
// of which each uses some. The first result says whether all but the error is zero.
func calls() map[string]func(l []api.Posting, d []api.Due, c []api.Cause, party, parcel, hour int) (bool, api.Errno) {
	return map[string]func(l []api.Posting, d []api.Due, c []api.Cause, party, parcel, hour int) (bool, api.Errno){
		"Append": func(l []api.Posting, d []api.Due, c []api.Cause, party, parcel, hour int) (bool, api.Errno) {
			m, e := purse.Append(l, api.Posting{Party: party, Parcel: parcel, Hour: hour})
			return len(m) == 0, e
		},
		"Sold": func(l []api.Posting, d []api.Due, c []api.Cause, party, parcel, hour int) (bool, api.Errno) {
			n, e := purse.Sold(l, parcel)
			return n == 0, e
		},
		"Has": func(l []api.Posting, d []api.Due, c []api.Cause, party, parcel, hour int) (bool, api.Errno) {
			n, e := purse.Has(l, party, parcel)
			return n == 0, e
		},
		"Held": func(l []api.Posting, d []api.Due, c []api.Cause, party, parcel, hour int) (bool, api.Errno) {
			n, e := purse.Held(l)
			return n == 0, e
		},
		"HeldOf": func(l []api.Posting, d []api.Due, c []api.Cause, party, parcel, hour int) (bool, api.Errno) {
			n, e := purse.HeldOf(l, parcel)
			return n == 0, e
		},
		"Reasons": func(l []api.Posting, d []api.Due, c []api.Cause, party, parcel, hour int) (bool, api.Errno) {
			m, e := purse.Reasons(l, party, parcel)
			return len(m) == 0, e
		},
		"LastPay": func(l []api.Posting, d []api.Due, c []api.Cause, party, parcel, hour int) (bool, api.Errno) {
			p, is, e := purse.LastPay(l, party, parcel)
			return p == api.Posting{} && !is, e
		},
		"Open": func(l []api.Posting, d []api.Due, c []api.Cause, party, parcel, hour int) (bool, api.Errno) {
			m, e := purse.Open(l, d)
			return len(m) == 0, e
		},
		"Over": func(l []api.Posting, d []api.Due, c []api.Cause, party, parcel, hour int) (bool, api.Errno) {
			m, e := purse.Over(l, d)
			return len(m) == 0, e
		},
		"Settle": func(l []api.Posting, d []api.Due, c []api.Cause, party, parcel, hour int) (bool, api.Errno) {
			m, e := purse.Settle(l, d, c, hour)
			return len(m) == 0, e
		},
		"Settled": func(l []api.Posting, d []api.Due, c []api.Cause, party, parcel, hour int) (bool, api.Errno) {
			is, e := purse.Settled(l, d)
			return !is, e
		},
		"Covered": func(l []api.Posting, d []api.Due, c []api.Cause, party, parcel, hour int) (bool, api.Errno) {
			m, e := purse.Covered(l, d)
			return len(m) == 0, e
		},
	}
}

// P7.1: functions with a book first return the error of Check, whatever the other arguments are.
func TestErrorsOfBooks(t *testing.T) {
	for want, l := range map[api.Errno][]api.Posting{
		api.ErrArg: {{}}, api.ErrLimit: many(401), api.ErrTime: postings(t, "1 5 sale 10 9 1 0", "2 4 sale 20 9 1 0"), api.ErrTwice: {aSale, aSale}, api.ErrNone: {aPay},
		api.ErrPoor: postings(t, "1 5 sale 10 9 1 0", "2 5 pay 7 10 10 1 0"), api.ErrReason: postings(t, "1 5 sale 10 9 1 0", "2 5 pay 7 10 9 1 0", "3 5 back 7 10 9 1 0"),
	} {
		for name, call := range calls() {
			if zero, e := call(l, []api.Due{{}}, make([]api.Cause, 401), -1, -1, -1); !zero || e != want {
				t.Errorf("%s: zero %v, error %d, want %d", name, zero, e, want)
			}
		}
		if got := purse.Upto(l, math.MaxInt); len(got) > 0 {
			t.Errorf("Upto: %v", got)
		}
		if got := purse.OfParcel(l, 10); len(got) > 0 {
			t.Errorf("OfParcel: %v", got)
		}
		if got := purse.Balances(l); len(got) > 0 {
			t.Errorf("Balances: %v", got)
		}
		if got := purse.Parcels(l); len(got) > 0 {
			t.Errorf("Parcels: %v", got)
		}
		if got := purse.Holders(l, 10); len(got) > 0 {
			t.Errorf("Holders: %v", got)
		}
	}
}

// P7.1, G7 to G9: the errors of the arguments beside the book, and their order.
func TestErrorsOfDues(t *testing.T) {
	l := sample(t)
	good, noDues, manyOfDues := []api.Due{due(10, 7, 5)}, []api.Due{due(10, 7, 5), due(10, 7, 5)}, make([]api.Due, 401)
	for name, call := range map[string]func(l []api.Posting, d []api.Due, c []api.Cause, party, parcel, hour int) (bool, api.Errno){
		"Open": calls()["Open"], "Over": calls()["Over"], "Settled": calls()["Settled"], "Covered": calls()["Covered"], "Settle": calls()["Settle"],
	} {
		if zero, e := call(l, noDues, nil, 0, 0, 20); !zero || e != api.ErrArg {
			t.Errorf("%s: zero %v, error %d", name, zero, e)
		}
		if zero, e := call(l, manyOfDues, nil, 0, 0, 20); !zero || e != api.ErrLimit {
			t.Errorf("%s: zero %v, error %d", name, zero, e)
		}
	}
	noCauses, manyCauses := []api.Cause{cause(10, 0, 0)}, make([]api.Cause, 401)
	for _, c := range []struct {
		what   string
		dues   []api.Due
		causes []api.Cause
		hour   int
		want   api.Errno
	}{
		{"no hour, too many dues", manyOfDues, nil, -1, api.ErrArg},
		{"no hour, too many causes", good, manyCauses, 1000001, api.ErrArg},
		{"no hour, far away", good, nil, math.MinInt, api.ErrArg},
		{"no hour, far away", good, nil, math.MaxInt, api.ErrArg},
		{"too many dues, no causes, early", manyOfDues, noCauses, 0, api.ErrLimit},
		{"no dues, too many causes, early", noDues, manyCauses, 0, api.ErrArg},
		{"too many causes, early", good, manyCauses, 0, api.ErrLimit},
		{"no causes, early", good, noCauses, 0, api.ErrArg},
		{"early", good, nil, 11, api.ErrTime},
		{"in time", good, nil, 12, api.OK},
	} {
		if m, e := purse.Settle(l, c.dues, c.causes, c.hour); len(m) > 0 || e != c.want {
			t.Errorf("%s: %v, error %d, want %d", c.what, m, e, c.want)
		}
	}
	// Too early is refused before too many.
	all := many(400)
	all[0].Parcel = 10
	slices.SortFunc(all, func(a, b api.Posting) int { return a.Id - b.Id })
	if m, e := purse.Settle(all, good, []api.Cause{cause(10, 1, 1)}, 7); len(m) > 0 || e != api.ErrTime {
		t.Errorf("early, in a full book: %v, error %d", m, e)
	}
	if m, e := purse.Settle(all, good, []api.Cause{cause(10, 1, 1)}, 8); len(m) > 0 || e != api.ErrLimit {
		t.Errorf("in a full book: %v, error %d", m, e)
	}
}

// R3: arguments are neither changed nor shared, and nil is as good as empty.
func TestMemory(t *testing.T) {
	l := sample(t, "5 12 sale 30 50 3 4", "6 12 sale 20 50 3 4")
	d := []api.Due{due(10, 7, 300), due(10, 9, 500), due(30, 7, 60)}
	c := []api.Cause{cause(10, 9, 11), cause(30, 9, 11)}
	kept, keptDues, keptCauses := slices.Clone(l), slices.Clone(d), slices.Clone(c)
	purse.Append(l[:4:6], postings(t, "9 12 sale 11 5 3 4")[0])
	longer, _ := purse.Append(l, postings(t, "9 12 sale 11 5 3 4")[0])
	clear(longer)
	clear(purse.Upto(l, 99))
	clear(purse.OfParcel(l, 10))
	clear(purse.Balances(l))
	clear(purse.Parcels(l))
	clear(purse.Holders(l, 10))
	reasons, _ := purse.Reasons(l, 7, 10)
	clear(reasons)
	open, _ := purse.Open(l, d)
	clear(open)
	over, _ := purse.Over(l, d)
	clear(over)
	purse.Settled(l, d)
	covered, _ := purse.Covered(l, d)
	clear(covered)
	made, _ := purse.Settle(l[:4:6], d, c, 20)
	clear(made)
	made, _ = purse.Settle(l, d, c, 20)
	clear(made)
	same(t, "the postings", l, kept)
	same(t, "the dues", d, keptDues)
	same(t, "the causes", c, keptCauses)
	for name, call := range calls() {
		zero, e := call(nil, nil, nil, 0, 10, 0)
		isZero, g := call([]api.Posting{}, []api.Due{}, []api.Cause{}, 0, 10, 0)
		if zero != isZero || e != g {
			t.Errorf("%s: zero %v, error %d of nil; zero %v, error %d of nothing", name, zero, e, isZero, g)
		}
	}
	if len(purse.Upto([]api.Posting{}, 9)) > 0 || len(purse.Balances([]api.Posting{})) > 0 || len(purse.Parcels([]api.Posting{})) > 0 {
		t.Error("something in an empty book")
	}
}
