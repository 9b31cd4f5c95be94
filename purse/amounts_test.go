package purse_test

import (
	"math"
	"math/rand/v2"
	"testing"

	"lagan/api"
	"lagan/purse"
)

// number checks what a function returned.
func number(t testing.TB, what string, n int, e api.Errno, want int, wantE api.Errno) {
	t.Helper()
	if n != want || e != wantE {
		t.Errorf("%s: %d, error %d, want %d, error %d", what, n, e, want, wantE)
	}
}

// P7.1, G3: what parcels were sold for, with the chapter's example.
func TestSold(t *testing.T) {
	l := sample(t, "5 12 sale 30 50 3 4", "6 12 sale 10000007 1000000000 3 4")
	for parcel, want := range map[int]int{10: 1000, 30: 50, 10000007: 1000000000} {
		n, e := purse.Sold(l, parcel)
		number(t, "Sold", n, e, want, api.OK)
	}
	for parcel, want := range map[int]api.Errno{
		20: api.ErrNone, 11: api.ErrNone, 10000006: api.ErrNone, 9: api.ErrArg, 10000008: api.ErrArg, 0: api.ErrArg, -10: api.ErrArg, math.MinInt: api.ErrArg, math.MaxInt: api.ErrArg,
	} {
		n, e := purse.Sold(l, parcel)
		number(t, "Sold", n, e, 0, want)
	}
}

// P7.1, G3: what parties have, and what is held, with the chapter's examples.
func TestHasHeld(t *testing.T) {
	l := sample(t, "5 12 sale 30 50 3 4", "6 13 pay 0 30 50 3 4", "7 14 pay 40 10 1 3 4", "8 15 back 0 30 20 3 15")
	for _, c := range []struct {
		party, parcel, want int
		e                   api.Errno
	}{
		{7, 10, 250, api.OK}, {8, 10, 100, api.OK}, {40, 10, 1, api.OK}, {0, 10, 0, api.OK}, {9, 10, 0, api.OK}, {0, 30, 30, api.OK}, {7, 30, 0, api.OK},
		{7, 20, 0, api.OK}, {7, 10000007, 0, api.OK}, {7, 9, 0, api.ErrArg}, {7, 10000008, 0, api.ErrArg}, {-1, 10, 0, api.ErrArg}, {41, 10, 0, api.ErrArg},
		{math.MinInt, 10, 0, api.ErrArg}, {math.MaxInt, 10, 0, api.ErrArg}, {7, math.MinInt, 0, api.ErrArg}, {7, math.MaxInt, 0, api.ErrArg},
	} {
		n, e := purse.Has(l, c.party, c.parcel)
		number(t, "Has", n, e, c.want, c.e)
	}
	for _, c := range []struct {
		parcel, want int
		e            api.Errno
	}{
		{10, 649, api.OK}, {30, 20, api.OK}, {20, 0, api.OK}, {10000007, 0, api.OK}, {9, 0, api.ErrArg}, {10000008, 0, api.ErrArg}, {0, 0, api.ErrArg}, {math.MinInt, 0, api.ErrArg}, {math.MaxInt, 0, api.ErrArg},
	} {
		n, e := purse.HeldOf(l, c.parcel)
		number(t, "HeldOf", n, e, c.want, c.e)
	}
	n, e := purse.Held(l)
	number(t, "Held", n, e, 669, api.OK)
	n, e = purse.Held(l[:4])
	number(t, "Held of the example", n, e, 650, api.OK)
	n, e = purse.Has(l[:4], 7, 10)
	number(t, "Has of the example", n, e, 250, api.OK)
	n, e = purse.HeldOf(purse.Upto(l, 8), 10)
	number(t, "HeldOf of the example", n, e, 600, api.OK)
	n, e = purse.Held(nil)
	number(t, "Held of nothing", n, e, 0, api.OK)
	n, e = purse.Has(nil, 7, 10)
	number(t, "Has of nothing", n, e, 0, api.OK)
	n, e = purse.Held(many(400))
	number(t, "Held of the greatest amounts", n, e, 400000000000, api.OK)
}

// P7.1, G4: balances, parcels and holders, with the chapter's examples.
func TestBalances(t *testing.T) {
	l := sample(t)
	same(t, "Balances of the example", purse.Balances(l), []api.Balance{{Party: 7, Paid: 400, Back: 150}, {Party: 8, Paid: 100}})
	same(t, "Holders of the example", purse.Holders(l, 10), []api.Due{due(10, 7, 250), due(10, 8, 100)})
	same(t, "Parcels of the example", purse.Parcels(l), []int{10})
	l = sample(t,
		"9 13 sale 30 50 3 4", "8 13 sale 11 60 3 4", "7 13 sale 10000007 50 3 4", "10 13 pay 8 30 5 3 4", "11 14 pay 0 30 6 3 4", "12 14 pay 40 30 7 3 4",
		"13 20 back 8 10 100 3 20", "14 20 back 0 30 6 3 20", "15 20 pay 2 10 1 3 4", "16 20 pay 7 11 9 3 4",
	)
	same(t, "Balances", purse.Balances(l), []api.Balance{
		{Party: 0, Paid: 6, Back: 6}, {Party: 2, Paid: 1}, {Party: 7, Paid: 409, Back: 150}, {Party: 8, Paid: 105, Back: 100}, {Party: 40, Paid: 7},
	})
	same(t, "Parcels", purse.Parcels(l), []int{10, 11, 30, 10000007})
	same(t, "Holders 10", purse.Holders(l, 10), []api.Due{due(10, 2, 1), due(10, 7, 250)})
	same(t, "Holders 11", purse.Holders(l, 11), []api.Due{due(11, 7, 9)})
	same(t, "Holders 30", purse.Holders(l, 30), []api.Due{due(30, 8, 5), due(30, 40, 7)})
	same(t, "Holders by 14", purse.Holders(purse.Upto(l, 14), 30), []api.Due{due(30, 0, 6), due(30, 8, 5), due(30, 40, 7)})
	for _, parcel := range []int{10000007, 20, 9, 0, -1, math.MinInt, math.MaxInt} {
		same(t, "Holders of nothing", purse.Holders(l, parcel), nil)
	}
	same(t, "Balances of nothing", purse.Balances(nil), nil)
	same(t, "Balances of a sale", purse.Balances(l[:1]), nil)
	same(t, "Parcels of nothing", purse.Parcels(nil), nil)
	l[0].Amount = 0
	same(t, "Balances of no book", purse.Balances(l), nil)
	same(t, "Parcels of no book", purse.Parcels(l), nil)
	same(t, "Holders of no book", purse.Holders(l, 30), nil)
}

// P7.1, G5: reasons, and last payments, with the chapter's examples.
func TestReasonsLastPay(t *testing.T) {
	l := sample(t, "5 12 sale 30 50 6 4", "6 12 pay 7 30 50 7 4", "7 13 pay 7 10 1 4 5", "8 14 pay 0 10 1 5 5", "9 15 back 0 10 1 8 14")
	for _, c := range []struct {
		party, parcel int
		want          []int
		last          int // -1: none
		e             api.Errno
	}{
		{7, 10, []int{4, 9, 4}, 6, api.OK}, {8, 10, []int{4}, 2, api.OK}, {0, 10, []int{5, 8}, 7, api.OK}, {7, 30, []int{7}, 5, api.OK},
		{0, 30, nil, -1, api.OK}, {9, 10, nil, -1, api.OK}, {40, 10000007, nil, -1, api.OK}, {7, 20, nil, -1, api.OK},
		{-1, 10, nil, -1, api.ErrArg}, {41, 10, nil, -1, api.ErrArg}, {7, 9, nil, -1, api.ErrArg}, {7, 10000008, nil, -1, api.ErrArg},
		{math.MinInt, 10, nil, -1, api.ErrArg}, {math.MaxInt, 10, nil, -1, api.ErrArg}, {7, math.MinInt, nil, -1, api.ErrArg}, {7, math.MaxInt, nil, -1, api.ErrArg},
	} {
		reasons, e := purse.Reasons(l, c.party, c.parcel)
		same(t, "Reasons", reasons, c.want)
		p, is, g := purse.LastPay(l, c.party, c.parcel)
		var want api.Posting
		if c.last >= 0 {
			want = l[c.last]
		}
		if e != c.e || g != c.e || is != (c.last >= 0) || p != want {
			t.Errorf("party %d, parcel %d: error %d; %+v, %v, error %d; want %+v, error %d", c.party, c.parcel, e, p, is, g, want, c.e)
		}
	}
	reasons, e := purse.Reasons(l[:4], 7, 10)
	same(t, "Reasons of the example", reasons, []int{4, 9})
	p, is, g := purse.LastPay(l[:4], 7, 10)
	if e != api.OK || g != api.OK || !is || p != l[1] {
		t.Errorf("the example: error %d; %+v, %v, error %d", e, p, is, g)
	}
	if p, is, e := purse.LastPay(nil, 7, 10); p != (api.Posting{}) || is || e != api.OK {
		t.Errorf("LastPay of nothing: %+v, %v, error %d", p, is, e)
	}
}

// modelReasons returns what Reasons should return.
func modelReasons(l []api.Posting, party, parcel int) []int {
	var out []int
	for _, p := range l {
		if (p.Kind == 2 || p.Kind == 3) && p.Party == party && p.Parcel == parcel {
			out = append(out, p.Reason)
		}
	}
	return out
}

// modelBalances returns what Balances should return.
func modelBalances(l []api.Posting) []api.Balance {
	var out []api.Balance
	for party := range 41 {
		b := api.Balance{Party: party}
		for _, p := range l {
			if p.Party == party && p.Kind == 2 {
				b.Paid += p.Amount
			}
			if p.Party == party && p.Kind == 3 {
				b.Back += p.Amount
			}
		}
		if b.Paid > 0 {
			out = append(out, b)
		}
	}
	return out
}

// P7.1, G3 to G5, and P7.2, P7.6: many books, at each hour.
func TestAmountsModel(t *testing.T) {
	r := rand.New(rand.NewPCG(7, 3))
	for range 200 {
		all := randomBook(r, 100)
		for hour := range lastHour(all) + 1 {
			l := purse.Upto(all, hour)
			var parcels []int
			paidAll, heldAll := 0, 0
			for parcel := 10; parcel < 15; parcel++ {
				if modelSold(l, parcel) > 0 {
					parcels = append(parcels, parcel)
				}
				paid, held := checkParcel(t, l, parcel)
				paidAll, heldAll = paidAll+paid, heldAll+held
				checkReasons(t, l, r.IntN(6), parcel)
			}
			same(t, "Parcels", purse.Parcels(l), parcels)
			held, e := purse.Held(l)
			number(t, "Held", held, e, heldAll, api.OK)
			balances := purse.Balances(l)
			same(t, "Balances", balances, modelBalances(l))
			for _, b := range balances {
				paidAll -= b.Paid - b.Back
			}
			if paidAll != 0 {
				t.Fatalf("the balances of %+v are %d less than what is paid", l, paidAll)
			}
		}
	}
}

// checkParcel checks Has, Holders, Sold and HeldOf of a book for a parcel, and returns what is paid and held for it.
func checkParcel(t testing.TB, l []api.Posting, parcel int) (paid, held int) {
	t.Helper()
	var holders []api.Due
	for party := range someParties + 1 {
		n, e := purse.Has(l, party, parcel)
		number(t, "Has", n, e, modelHas(l, party, parcel), api.OK)
		if n < 0 {
			t.Errorf("Has(%+v, %d, %d): %d", l, party, parcel, n)
		}
		if n > 0 {
			holders = append(holders, due(parcel, party, n))
		}
		paid += n
	}
	same(t, "Holders", purse.Holders(l, parcel), holders)
	sold, e := purse.Sold(l, parcel)
	want := api.OK
	if modelSold(l, parcel) == 0 {
		want = api.ErrNone
	}
	number(t, "Sold", sold, e, modelSold(l, parcel), want)
	held, e = purse.HeldOf(l, parcel)
	number(t, "HeldOf", held, e, modelHeld(l, parcel), api.OK)
	if held < 0 || sold != paid+held {
		t.Errorf("%+v: %d was sold for %d, %d is paid, %d held", l, parcel, sold, paid, held)
	}
	return paid, held
}

// checkReasons checks Reasons and LastPay of a book.
func checkReasons(t testing.TB, l []api.Posting, party, parcel int) {
	t.Helper()
	reasons, e := purse.Reasons(l, party, parcel)
	same(t, "Reasons", reasons, modelReasons(l, party, parcel))
	last, is := modelLast(l, party, parcel)
	if p, was, g := purse.LastPay(l, party, parcel); p != last || was != is || e != api.OK || g != api.OK {
		t.Errorf("LastPay(%+v, %d, %d): %+v, %v, error %d", l, party, parcel, p, was, g)
	}
}

// P7.3: a clawback has a reason that is known later than the last payment, and is no more than the party has.
func TestClawbacks(t *testing.T) {
	r := rand.New(rand.NewPCG(7, 4))
	backs := 0
	for range 1000 {
		var l []api.Posting
		for range 80 {
			if m, e := purse.Append(l, randomPosting(r, l)); e == api.OK {
				l = m
			}
		}
		for i, p := range l {
			if p.Kind != api.PostBack {
				continue
			}
			backs++
			last, is, e := purse.LastPay(l[:i], p.Party, p.Parcel)
			if !is || e != api.OK || p.Known <= last.Known {
				t.Fatalf("%+v comes back behind the payment %+v, error %d", p, last, e)
			}
			if n, e := purse.Has(l[:i], p.Party, p.Parcel); n < p.Amount || e != api.OK {
				t.Fatalf("%+v comes back of %d, error %d", p, n, e)
			}
		}
	}
	if backs < 1000 {
		t.Errorf("only %d clawbacks", backs)
	}
}
