package coast_test

import (
	"math"
	"slices"
	"testing"

	"lagan/api"
	"lagan/coast"
)

// P10.1: methods of a nil coast return ErrNil, or zero values.
func TestNil(t *testing.T) {
	var c *coast.Coast
	for _, n := range []int{-1, 0, 1, 2000000} {
		does(t, "Pass", c.Pass(n), api.ErrNil)
		number, e := c.Tell(n, "")
		does(t, "Tell", e, api.ErrNil)
		line, f := c.Ask(n, "")
		does(t, "Ask", f, api.ErrNil)
		does(t, "Audit", c.Audit(n, ""), api.ErrNil)
		does(t, "Send", c.Send(n, n), api.ErrNil)
		does(t, "Carry", c.Carry(n, 1, 0), api.ErrNil)
		does(t, "Lose", c.Lose(n, 1, 0), api.ErrNil)
		does(t, "Repeat", c.Repeat(n, 1, 0), api.ErrNil)
		does(t, "Stop", c.Stop(n, -1), api.ErrNil)
		does(t, "Crash", c.Crash(n, nil), api.ErrNil)
		l, e := c.Due(n, 60)
		does(t, "Due", e, api.ErrNil)
		held, e := c.Held(n)
		does(t, "Held", e, api.ErrNil)
		has, e := c.Has(n, -1, -1)
		does(t, "Has", e, api.ErrNil)
		if number != 0 || line != "" || len(l) > 0 || held != 0 || has != 0 {
			t.Errorf("%d, %q, %v, %d, %d", number, line, l, held, has)
		}
		same(t, "the records", c.Records(n), nil)
		same(t, "the books", c.Books(n), api.Books{})
	}
	n, e := c.Settle()
	does(t, "Settle", e, api.ErrNil)
	if n != 0 || c.Now() != 0 {
		t.Errorf("%d, %d", n, c.Now())
	}
}

// R3: results share no memory with the coast, and arguments are not changed.
func TestMemory(t *testing.T) {
	c := sold(t)
	settles(t, c, api.OK, soldPostings...)
	records, books := c.Records(0), c.Books(0)
	for range 2 {
		l := c.Records(0)
		same(t, "the records", l, records)
		clear(l)
		l = append(l[:0], api.Record{Text: "spoilt"})
		b := c.Books(0)
		same(t, "the books", b, books)
		clear(b.Season.Sea.Heights)
		clear(b.Season.Sea.Tides)
		clear(b.Season.Losses)
		clear(b.Papers)
		clear(b.Reports)
		clear(b.Rates)
		clear(b.Sales)
		clear(b.Postings)
		dues, _ := c.Due(0, 60)
		if len(dues) != 2 || dues[0].Amount != 20 {
			t.Errorf("Due: %v", dues)
		}
		clear(dues)
	}
	// The setup's season is read once, so that what comes back of it is the same at all stations.
	same(t, "the books of another station", c.Books(1).Season, books.Season)
	keep := []int{3, -1, 64}
	does(t, "Crash", c.Crash(0, keep), api.OK)
	if !slices.Equal(keep, []int{3, -1, 64}) {
		t.Errorf("the keeps %v", keep)
	}
	same(t, "the records", c.Records(0), records)
}

// R1: any numbers and strings are no more than errors.
func TestAnyNumbers(t *testing.T) {
	c := sold(t)
	far := []int{math.MinInt, -1, 0, 1, 99, math.MaxInt}
	for _, a := range far {
		for _, b := range far {
			for _, i := range far {
				c.Send(a, b)
				c.Repeat(a, b, i)
				c.Carry(a, b, i)
				c.Lose(a, b, i)
				c.Has(a, b, i)
			}
			c.Due(a, b)
			c.Crash(a, []int{b, a})
			c.Stop(a, b)
		}
		for _, s := range []string{"", " ", "\x00", "\xff", "at", "posting ", "at 5 assign = ", "at 99999999999999999999 assign", "paper package 99999999999999999999"} {
			c.Tell(a, s)
			c.Ask(a, s)
			c.Audit(a, s)
			coast.Run(s)
		}
		c.Held(a)
		c.Records(a)
		c.Books(a)
		c.Settle()
	}
	for _, n := range far {
		c.Pass(n)
		coast.New(api.Setup{Stations: n, Sectors: n, Season: source})
		coast.New(api.Setup{Stations: 2, Sectors: n, Season: source})
		coast.New(api.Setup{Stations: n, Sectors: 4000, Season: source})
	}
}
