package coast_test

import (
	"slices"
	"strconv"
	"testing"

	"lagan/api"
	"lagan/coast"
	"lagan/purse"
)

// sold returns a coast of two stations at the hour 20, on which the parcel 60 was sold for 100 pence, by the record 20 of
// the receiver; 4 found it, and it is of the package of 7. The parcel 110, which 5 found, is of it too.
func sold(t testing.TB) *coast.Coast {
	t.Helper()
	c := newCoast(t, 2)
	tells(t, c, 0, "paper package 1 1 0 ab oil 40 60 2 7", "paper package 1 2 0 cd oil 5 9 1 8")
	passes(t, c, 5)
	tells(t, c, 1, "report 3 found 1 a? oil 10 20 4")
	passes(t, c, 6)
	tells(t, c, 1, "report 5 found 0 ?? oil 30 30 5")
	passes(t, c, 10)
	tells(t, c, 0, "rate rate 0 all 1 5 0 0")
	exchange(t, c, 2)
	passes(t, c, 20)
	tells(t, c, 0, "sale 20 sale 60 100 0 0 0")
	return c
}

// What settles the sale.
var soldPostings = []string{"posting sale 60 100 20 20", "posting pay 4 60 20 20 20", "posting pay 7 60 80 20 20"}

// P10.1, K3: a sale comes in, and is paid; then there is nothing to write.
func TestSettle(t *testing.T) {
	c := newCoast(t, 2)
	settles(t, c, api.OK)
	c = sold(t)
	settles(t, c, api.OK, soldPostings...)
	settles(t, c, api.OK)
	passes(t, c, 30)
	settles(t, c, api.OK)
	same(t, "the postings", c.Books(0).Postings, []api.Posting{
		{Id: 25, Hour: 20, Kind: api.PostSale, Parcel: 60, Amount: 100, Reason: 20, Known: 20},
		{Id: 30, Hour: 20, Kind: api.PostPay, Party: 4, Parcel: 60, Amount: 20, Reason: 20, Known: 20},
		{Id: 35, Hour: 20, Kind: api.PostPay, Party: 7, Parcel: 60, Amount: 80, Reason: 20, Known: 20},
	})
	// What is written later is written at that hour, but has the hour of its reason.
	passes(t, c, 40)
	tells(t, c, 0, "rate rate 0 oil 2 5 0 0")
	passes(t, c, 50)
	settles(t, c, api.OK, "posting back 7 60 20 40 40", "posting pay 4 60 20 40 40")
	settles(t, c, api.OK)
}

// P10.1, K3: first all sales, by ascending parcels, then the clawbacks, then the payments.
func TestSettleOrder(t *testing.T) {
	c := sold(t)
	settles(t, c, api.OK, soldPostings...)
	passes(t, c, 21)
	tells(t, c, 1, "report 20 divided 110 2", "sale 21 sale 161 20 0 0 0", "sale 21 sale 160 10 0 0 0")
	exchange(t, c, 2)
	passes(t, c, 22)
	tells(t, c, 0, "rate rate 0 all 0 1 0 0")
	settles(t, c, api.OK,
		"posting sale 160 10 26 21", "posting sale 161 20 21 21",
		"posting back 4 60 20 40 22",
		"posting pay 7 60 20 40 22", "posting pay 7 160 10 40 22", "posting pay 7 161 20 40 22")
}

// P10.1, K3: when two finds turn out to be one thing, what was paid for the second one is claimed back.
func TestSettleSame(t *testing.T) {
	c := sold(t)
	tells(t, c, 0, "sale 20 sale 110 50 0 0 0")
	settles(t, c, api.OK, "posting sale 60 100 20 20", "posting sale 110 50 25 20",
		"posting pay 4 60 20 20 20", "posting pay 7 60 80 20 20", "posting pay 5 110 10 25 20", "posting pay 7 110 40 25 20")
	passes(t, c, 30)
	tells(t, c, 1, "report 30 same 60 110")
	settles(t, c, api.OK)
	exchange(t, c, 2)
	settles(t, c, api.OK, "posting back 5 110 10 16 30", "posting back 7 110 40 16 30")
	settles(t, c, api.OK)
	if held, e := c.Held(0); held != 50 || e != api.OK {
		t.Errorf("Held: %d, error %d", held, e)
	}
	// It was not so: both are paid again, by the record that says this.
	passes(t, c, 31)
	tells(t, c, 0, "report void 16")
	settles(t, c, api.OK, "posting pay 5 110 10 70 31", "posting pay 7 110 40 70 31")
}

// P10.1, K3: nothing comes back without a record that is known later than the payment's reason.
func TestSettleReasons(t *testing.T) {
	c := sold(t)
	settles(t, c, api.OK, soldPostings...)
	tells(t, c, 0, "sale void 20")
	settles(t, c, api.OK)
	passes(t, c, 30)
	settles(t, c, api.OK)
	c = sold(t)
	passes(t, c, 21)
	settles(t, c, api.OK, soldPostings...)
	tells(t, c, 0, "sale void 20")
	settles(t, c, api.OK, "posting back 4 60 20 40 21", "posting back 7 60 80 40 21")
}

// P10.1, K3: a parcel comes in once, for the price of the sale that counted then.
func TestSettleSoldAgain(t *testing.T) {
	c := sold(t)
	settles(t, c, api.OK, soldPostings...)
	passes(t, c, 30)
	tells(t, c, 0, "sale void 20", "sale 30 sale 60 50 0 0 0")
	settles(t, c, api.OK, "posting back 4 60 10 45 30", "posting back 7 60 40 45 30")
	passes(t, c, 40)
	tells(t, c, 0, "sale void 45", "sale 40 sale 60 200 0 0 0")
	// 4 should have 40, and 7 should have 160: what is held is not enough.
	settles(t, c, api.OK, "posting pay 4 60 30 65 40", "posting pay 7 60 20 65 40")
	settles(t, c, api.OK)
	// A sale that was withdrawn before it came in does nothing.
	passes(t, c, 50)
	tells(t, c, 0, "sale 50 sale 110 50 0 0 0", "sale void 80")
	settles(t, c, api.OK)
}

// P10.1, K3: records that come late are entered at their place; the postings are a book all the same (P10.3).
func TestSettleLate(t *testing.T) {
	c := sold(t)
	passes(t, c, 25)
	tells(t, c, 1, "sale 25 sale 60 70 0 0 0", "sale 25 sale 110 10 0 0 0")
	passes(t, c, 26)
	tells(t, c, 0, "sale 26 sale 110 30 0 0 0") // the record 25
	settles(t, c, api.OK, "posting sale 60 100 20 20", "posting sale 110 30 25 26",
		"posting pay 4 60 20 20 20", "posting pay 7 60 80 20 20", "posting pay 5 110 6 25 26", "posting pay 7 110 24 25 26")
	exchange(t, c, 2)
	// The parcel 110 was sold before by 1. The cause is known too early to take something back.
	settles(t, c, api.OK)
	checkBook(t, c, 2)
	passes(t, c, 27)
	tells(t, c, 0, "rate rate 0 all 1 10 0 0")
	settles(t, c, api.OK, "posting back 4 60 10 60 27", "posting back 5 110 5 60 27", "posting back 7 110 15 60 27", "posting pay 7 60 10 60 27")
	checkBook(t, c, 2)
}

// P10.1, K3: the power fails, at once or at each call of what is written: what was written stays, and no more.
func TestSettleDown(t *testing.T) {
	c := sold(t)
	does(t, "Stop", c.Stop(0, 0), api.OK)
	refuses(t, c, 0, "rate void 15", api.ErrDown)
	settles(t, c, api.ErrDown)
	does(t, "Crash", c.Crash(0, nil), api.OK)
	settles(t, c, api.OK, soldPostings...)
	written := map[int]bool{}
	for calls := 0; ; calls++ {
		c := sold(t)
		does(t, "Stop", c.Stop(0, calls), api.OK)
		n, e := c.Settle()
		if e == api.OK {
			break
		}
		before := len(own(c, 0)) - 4
		if n != 0 || e != api.ErrDown || before > 2 {
			t.Fatalf("Settle with %d calls: %d, error %d, %d records", calls, n, e, before)
		}
		settles(t, c, api.ErrDown)
		does(t, "Crash", c.Crash(0, []int{64, calls}), api.OK)
		after := len(own(c, 0)) - 4
		if after < before || after > before+1 {
			t.Errorf("%d records, and behind the crash %d", before, after)
		}
		written[after] = true
		settles(t, c, api.OK, soldPostings[after:]...)
		checkBook(t, c, 2)
	}
	same(t, "after how many records the power failed", len(written), 4)
}

// crowd returns a coast on which parcels of the package of 40 parties were sold, and the receiver has written nothing.
// 1 has what nobody else has.
func crowd(t testing.TB, parcels int) *coast.Coast {
	t.Helper()
	c := coastWith(t, 2, 65536, source)
	passes(t, c, 3)
	tells(t, c, 1, "paper package 1 1 0 ab oil 1000 2000 20 1", "rate rate 0 all 0 1 0 0")
	for party := 2; party <= 40; party++ {
		tells(t, c, 1, "deed 0 paid 1 1 1 "+strconv.Itoa(party)+" 1 "+strconv.Itoa(42-party))
	}
	for range parcels {
		id := 5*(len(own(c, 1))+1) + 1
		tells(t, c, 1, "report 3 found 1 a? oil 10 20 4", "sale 3 sale "+strconv.Itoa(10*id)+" 400 0 0 0")
	}
	return c
}

// P10.1, K3: there are limits of dues, of the escrow book, and of records.
func TestSettleLimits(t *testing.T) {
	t.Parallel()
	for parcels, want := range map[int]api.Errno{11: api.ErrLimit, 10: api.ErrLimit, 9: api.OK} {
		c := crowd(t, parcels)
		exchange(t, c, 2)
		n, e := c.Settle()
		if e != want || e == api.OK && n != 41*parcels || len(own(c, 0)) != n {
			t.Errorf("Settle of %d parcels: %d, error %d, %d records", parcels, n, e, len(own(c, 0)))
		}
		checkBook(t, c, 2)
	}
	for _, room := range []int{1, 2, 40} {
		c := crowd(t, 2)
		for i := range 400 - room {
			texts := []string{"wind wind 90 99 0 0 0 1", "deed 0 claim 2 1 7", "paper package 2 1 0 ab oil 40 60 2 7"}
			tells(t, c, 0, texts[i%3])
		}
		exchange(t, c, 2)
		if n, e := c.Settle(); n != 0 || e != api.ErrLimit {
			t.Errorf("Settle with room for %d: %d, error %d", room, n, e)
		}
		same(t, "how many records there are", len(own(c, 0)), 400)
		same(t, "how many postings there are", len(c.Books(0).Postings), room)
		if room > 2 {
			same(t, "what the first one of 40 has", has(t, c, 0, 1, 10*(5*42+1)), 10)
		}
		if n, e := c.Settle(); n != 0 || e != api.ErrLimit {
			t.Errorf("Settle again: %d, error %d", n, e)
		}
	}
}

func has(t testing.TB, c *coast.Coast, station, party, parcel int) int {
	t.Helper()
	n, e := c.Has(station, party, parcel)
	does(t, "Has", e, api.OK)
	return n
}

// P10.3: the postings of each station are a book; what was sold is what is paid and what is held, and no more is paid.
func checkBook(t testing.TB, c *coast.Coast, n int) {
	t.Helper()
	for s := range n {
		l := c.Books(s).Postings
		if i, e := purse.Check(l); e != api.OK {
			t.Fatalf("the posting %d of %d: error %d", i, s, e)
		}
		all := 0
		for _, parcel := range purse.Parcels(l) {
			price, _ := purse.Sold(l, parcel)
			paid := 0
			for i, x := range purse.Holders(l, parcel) {
				paid += x.Amount
				if i < 2 {
					same(t, "what a party has", has(t, c, s, x.Party, parcel), x.Amount)
				}
			}
			held, _ := purse.HeldOf(l, parcel)
			all += held
			if paid+held != price || paid > price {
				t.Errorf("%d was sold for %d, paid are %d, held are %d", parcel, price, paid, held)
			}
		}
		if held, e := c.Held(s); held != all || e != api.OK {
			t.Errorf("Held of %d: %d, error %d, want %d", s, held, e, all)
		}
		if s > 0 {
			same(t, "the first postings of the receiver", l, c.Books(0).Postings[:len(l)])
		}
	}
}

// P10.1, K3: who is not the receiver has nothing of it until letters come.
func TestSettleOfReceiver(t *testing.T) {
	c := sold(t)
	does(t, "Stop", c.Stop(1, 0), api.OK)
	settles(t, c, api.OK, soldPostings...)
	same(t, "the postings of another station", c.Books(1).Postings, nil)
	does(t, "Crash", c.Crash(1, nil), api.OK)
	exchange(t, c, 2)
	same(t, "the postings of another station", c.Books(1).Postings, c.Books(0).Postings)
	if !slices.Equal(c.Records(0), c.Records(1)) {
		t.Errorf("the records %v, and %v", c.Records(0), c.Records(1))
	}
}
