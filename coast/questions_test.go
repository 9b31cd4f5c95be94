package coast_test

import (
	"math"
	"slices"
	"strings"
	"testing"

	"lagan/api"
	"lagan/coast"
	"lagan/inquiry"
)

// valuesOf returns the Values that a station answers to a question, with a line that is accepted by its audit.
func valuesOf(t testing.TB, c *coast.Coast, station int, question string) []int {
	t.Helper()
	line, e := c.Ask(station, question)
	does(t, "Ask "+question, e, api.OK)
	does(t, "Audit of "+line, c.Audit(station, line), api.OK)
	said, answer, is := strings.Cut(line, " = ")
	a, e := inquiry.ReadAnswer(answer)
	if !is || said != question || e != api.OK {
		t.Errorf("Ask %q: %q", question, line)
	}
	return a.Values
}

// P10.1, K6: the records of a station, and its books: those that inquiry.Told returns for them.
func TestRecordsAndBooks(t *testing.T) {
	c := sold(t)
	season, _ := inquiry.ParseSeason(source)
	for s, want := range [][]api.Record{{
		{Station: 0, Number: 1, Hour: 0, Text: "paper package 1 1 0 ab oil 40 60 2 7"},
		{Station: 0, Number: 2, Hour: 0, Text: "paper package 1 2 0 cd oil 5 9 1 8"},
		{Station: 0, Number: 3, Hour: 10, Text: "rate rate 0 all 1 5 0 0"},
		{Station: 0, Number: 4, Hour: 20, Text: "sale 20 sale 60 100 0 0 0"},
		{Station: 1, Number: 1, Hour: 5, Text: "report 3 found 1 a? oil 10 20 4"},
		{Station: 1, Number: 2, Hour: 6, Text: "report 5 found 0 ?? oil 30 30 5"},
	}, {
		{Station: 0, Number: 1, Hour: 0, Text: "paper package 1 1 0 ab oil 40 60 2 7"},
		{Station: 0, Number: 2, Hour: 0, Text: "paper package 1 2 0 cd oil 5 9 1 8"},
		{Station: 0, Number: 3, Hour: 10, Text: "rate rate 0 all 1 5 0 0"},
		{Station: 1, Number: 1, Hour: 5, Text: "report 3 found 1 a? oil 10 20 4"},
		{Station: 1, Number: 2, Hour: 6, Text: "report 5 found 0 ?? oil 30 30 5"},
	}} {
		same(t, "the records", c.Records(s), want)
		books, _, _ := inquiry.Told(season, 2, want)
		same(t, "the books", c.Books(s), books)
		if len(books.Papers) != 2 || len(books.Reports) != 2 || len(books.Rates) != 1 || len(books.Sales) != 1-s {
			t.Errorf("the books of %d: %+v", s, books)
		}
	}
	for _, s := range []int{-1, 2, 5, math.MinInt, math.MaxInt} {
		same(t, "the records of no station", c.Records(s), nil)
		same(t, "the books of no station", c.Books(s), api.Books{})
	}
}

// P10.1, K7: answers, and the errors of questions.
func TestAsk(t *testing.T) {
	c := sold(t)
	for question, want := range map[string][]int{
		"at 20 weight 60": {1, 10, 20}, "at 20 package 1 1": {1, 40, 60}, "at 20 place 1 1 0 0 0": {0}, "at 20 assign": {1}, "at 20 may 60 1 1": {1},
		"at 20 may 60 1 2": {0}, "at 20 title 1 1 20": {7, 1, 1}, "at 20 title 1 1 9000": {0, 1, 1}, "at 20 sure 60 20": {1, 7, 1, 1}, "at 20 due 60 20": {1, 4, 20, 7, 80},
	} {
		same(t, question, valuesOf(t, c, 0, question), want)
	}
	for question, want := range map[string]api.Errno{
		"": api.ErrForm, "assign": api.ErrForm, "at 20 assign ": api.ErrForm, "at 020 assign": api.ErrForm, "at 1000001 assign": api.ErrForm, "at 20 assign = 1 | 0 0": api.ErrForm,
		"at 20 weight 70": api.ErrParcel, "at 20 package 1 3": api.ErrNone, "at 20 place 2 1 1 0 1": api.ErrNone, "at 20 place 1 1 1 0 201": api.ErrFar, "at 20 due 110 20": api.ErrSold,
		"at 19 due 60 20": api.ErrSold, "at 9 sure 60 0": api.OK, "at 5 sure 110 0": api.ErrParcel,
	} {
		if line, e := c.Ask(0, question); e != want || (line != "") != (want == api.OK) {
			t.Errorf("Ask %q: %q, error %d, want %d", question, line, e, want)
		}
	}
	// The other station does not know of the sale.
	if line, e := c.Ask(1, "at 20 due 60 20"); line != "" || e != api.ErrSold {
		t.Errorf("Ask of 1: %q, error %d", line, e)
	}
	for _, s := range []int{-1, 2, 5, math.MinInt, math.MaxInt} {
		if line, e := c.Ask(s, "at 20 assign"); line != "" || e != api.ErrArg {
			t.Errorf("Ask of no station: %q, error %d", line, e)
		}
		if line, e := c.Ask(s, ""); line != "" || e != api.ErrArg {
			t.Errorf("Ask of no station: %q, error %d", line, e)
		}
		does(t, "Audit of no station", c.Audit(s, ""), api.ErrArg)
	}
}

// P10.1, K7: what an audit accepts, and what not.
func TestAudit(t *testing.T) {
	c := sold(t)
	for line, want := range map[string]api.Errno{
		"at 20 assign = 1 | 0 0":                       api.OK,
		"at 20 due 60 20 = 1 4 20 7 80 | 0 0 | 1 0 0":  api.OK,
		"at 20 due 60 20 = 1 4 20 7 81 | 0 0 | 1 0 0":  api.ErrFalse,
		"at 20 assign = 0 | 0 1":                       api.ErrFalse,
		"at 20 assign = 1 | 0 1":                       api.ErrFalse,
		"at 20 may 60 1 2 = 0 | | 0 0":                 api.OK,
		"at 20 may 60 1 1 = 0 | 1 | 0 0":               api.ErrFalse,
		"at 20 weight 70 = 1":                          api.ErrParcel,
		"at 20 due 110 20 = 1":                         api.ErrSold,
		"at 20 assign":                                 api.ErrForm,
		"at 20 assign=1 | 0 0":                         api.ErrForm,
		"at 20 assign = 1 | 0 0\nat 20 assign = 1 | 0": api.ErrForm,
		"": api.ErrForm,
	} {
		does(t, "Audit of "+line, c.Audit(0, line), want)
	}
	does(t, "Audit of 1, who does not know of the sale", c.Audit(1, "at 20 due 60 20 = 1 4 20 7 80 | 0 0 | 1 0 0"), api.ErrSold)
}

// P10.4: what one station answers is accepted by each one with the same records.
func TestProofs(t *testing.T) {
	c := sold(t)
	exchange(t, c, 2)
	for _, question := range []string{"at 20 weight 60", "at 20 package 1 2", "at 20 place 1 1 1 0 0", "at 20 place 1 1 0 1 0", "at 20 assign", "at 6 may 110 1 1", "at 20 title 1 1 9000", "at 20 sure 60 20", "at 20 due 60 20"} {
		for s := range 2 {
			line, e := c.Ask(s, question)
			does(t, "Ask", e, api.OK)
			for by := range 2 {
				does(t, "Audit of "+line, c.Audit(by, line), api.OK)
			}
		}
	}
}

// P10.1, K8: what is due now, what is held, and what a party has.
func TestMoney(t *testing.T) {
	c := sold(t)
	want := []api.Due{{Party: 4, Parcel: 60, Amount: 20}, {Party: 7, Parcel: 60, Amount: 80}}
	due := func(station, parcel int, want []api.Due, e api.Errno) {
		t.Helper()
		if l, f := c.Due(station, parcel); !slices.Equal(l, want) || f != e {
			t.Errorf("Due of %d by %d: %v, error %d, want %v, %d", parcel, station, l, f, want, e)
		}
	}
	due(0, 60, want, api.OK)
	due(1, 60, nil, api.ErrSold)
	due(0, 110, nil, api.ErrSold)
	due(0, 70, nil, api.ErrParcel)
	due(0, -1, nil, api.ErrParcel)
	money := func(station, held, has int) {
		t.Helper()
		if n, e := c.Held(station); n != held || e != api.OK {
			t.Errorf("Held of %d: %d, error %d, want %d", station, n, e, held)
		}
		if n, e := c.Has(station, 7, 60); n != has || e != api.OK {
			t.Errorf("Has of %d: %d, error %d, want %d", station, n, e, has)
		}
	}
	money(0, 0, 0)
	settles(t, c, api.OK, soldPostings...)
	money(0, 0, 80)
	money(1, 0, 0)
	exchange(t, c, 2)
	money(1, 0, 80)
	due(1, 60, want, api.OK)
	// A year later it is the crown's, if nobody has claimed it.
	passes(t, c, 8788)
	due(0, 60, []api.Due{{Party: 0, Parcel: 60, Amount: 80}, {Party: 4, Parcel: 60, Amount: 20}}, api.OK)
	tells(t, c, 1, "deed 8787 claim 1 1 7")
	due(1, 60, want, api.OK)
	for _, x := range [][2]int{{-1, 60}, {41, 60}, {7, 9}, {7, 10000008}, {math.MinInt, 60}, {7, math.MaxInt}} {
		if n, e := c.Has(0, x[0], x[1]); n != 0 || e != api.ErrArg {
			t.Errorf("Has of %v: %d, error %d", x, n, e)
		}
	}
	if n, e := c.Has(0, 40, 10000007); n != 0 || e != api.OK {
		t.Errorf("Has of who has nothing: %d, error %d", n, e)
	}
	for _, s := range []int{-1, 2, 5, math.MinInt, math.MaxInt} {
		due(s, 60, nil, api.ErrArg)
		if n, e := c.Held(s); n != 0 || e != api.ErrArg {
			t.Errorf("Held of no station: %d, error %d", n, e)
		}
		if n, e := c.Has(s, 7, 60); n != 0 || e != api.ErrArg {
			t.Errorf("Has of no station: %d, error %d", n, e)
		}
	}
}

// P10.1, K6: questions do not ask whether a disk is down.
func TestQuestionsOfDown(t *testing.T) {
	c := sold(t)
	settles(t, c, api.OK, soldPostings...)
	records, books := c.Records(0), c.Books(0)
	does(t, "Stop", c.Stop(0, 0), api.OK)
	refuses(t, c, 0, "rate void 15", api.ErrDown)
	same(t, "the records", c.Records(0), records)
	same(t, "the books", c.Books(0), books)
	same(t, "an answer", valuesOf(t, c, 0, "at 20 due 60 20"), []int{1, 4, 20, 7, 80})
	same(t, "what 7 has", has(t, c, 0, 7, 60), 80)
	if l, e := c.Due(0, 60); len(l) != 2 || e != api.OK {
		t.Errorf("Due: %v, error %d", l, e)
	}
	if n, e := c.Held(0); n != 0 || e != api.OK {
		t.Errorf("Held: %d, error %d", n, e)
	}
}
