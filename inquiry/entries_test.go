package inquiry_test

import (
	"math"
	"slices"
	"strings"
	"testing"

	"lagan/api"
	"lagan/inquiry"
	"lagan/post"
)

// P9.1, I2: each part of books has its error, and they come in their order.
func TestCheckBooks(t *testing.T) {
	for want, b := range wrongBooks(t) {
		if e := inquiry.CheckBooks(b); e != want {
			t.Errorf("error %d, want %d", e, want)
		}
	}
	if e := inquiry.CheckBooks(booksB(t)); e != api.OK {
		t.Errorf("B: error %d", e)
	}
	if e := inquiry.CheckBooks(api.Books{Season: seasonC(t)}); e != api.OK {
		t.Errorf("empty books: error %d", e)
	}
	if e := inquiry.CheckBooks(api.Books{}); e != api.ErrArg {
		t.Errorf("no books: error %d", e)
	}
	// Each of these makes the books wrong by another error than the one before: they are spoilt from the last one on.
	b := booksB(t)
	for _, c := range []struct {
		spoil func()
		want  api.Errno
	}{
		{func() { b.Postings = []api.Posting{{}} }, api.ErrArg},
		{func() { b.Sales = make([]api.Sale, 2); b.Sales[0] = booksB(t).Sales[0]; b.Sales[1] = b.Sales[0] }, api.ErrTwice},
		{func() { b.Rates = []api.Rate{{Id: 1, Of: 2}} }, api.ErrNone},
		{func() { b.Deeds = []api.Deed{{}} }, api.ErrArg},
		{func() { b.Reports = append(b.Reports, api.Report{Id: 9, Kind: api.ReportVoid, Of: 1}) }, api.ErrTime},
		{func() { b.Winds = []api.Wind{{Id: 1, Of: 2}} }, api.ErrNone},
		{func() { b.Papers = append(b.Papers, b.Papers[0]) }, api.ErrTwice},
		{func() { b.Season.Losses = make([]api.Loss, 21) }, api.ErrLimit},
	} {
		c.spoil()
		if e := inquiry.CheckBooks(b); e != c.want {
			t.Errorf("error %d, want %d", e, c.want)
		}
	}
}

// P9.1, I3: a record of each layer is entered at the end of its list, and the rest stays.
func TestEnter(t *testing.T) {
	b := booksB(t)
	for _, c := range []struct {
		line string
		want func(b *api.Books)
	}{
		{"1 3 30 paper void 5", func(b *api.Books) {
			b.Papers = append(b.Papers, api.Paper{Id: 16, Known: 30, Kind: api.PaperVoid, Of: 5})
		}},
		{"2 400 30 wind wind 1 2 -1 0 1 2", func(b *api.Books) {
			b.Winds = append(b.Winds, api.Wind{Id: 2002, Known: 30, From: 1, Until: 2, Along: api.Range{Low: -1}, Ashore: api.Range{Low: 1, High: 2}})
		}},
		{"4 1 30 report 7 joined 60 110", func(b *api.Books) {
			b.Reports = append(b.Reports, api.Report{Id: 9, Known: 30, Hour: 7, Kind: api.ReportJoined, Parts: []int{60, 110}})
		}},
		{"1 3 30 deed 8 paid 1 1 7 8 1 2", func(b *api.Books) {
			b.Deeds = append(b.Deeds, api.Deed{Id: 16, Known: 30, Hour: 8, Kind: api.DeedPaid, Loss: 1, Pack: 1, From: 7, To: 8, Share: api.Frac{Num: 1, Den: 2}})
		}},
		{"1 3 30 deed void 5", nil},
		{"0 5 30 rate rate 3 oil 1 2 3 4", func(b *api.Books) {
			b.Rates = append(b.Rates, api.Rate{Id: 25, Known: 30, From: 3, Goods: "oil", Finder: api.Frac{Num: 1, Den: 2}, Cart: 3, Store: 4})
		}},
		{"3 1 30 sale void 20", func(b *api.Books) { b.Sales = append(b.Sales, api.Sale{Id: 8, Known: 30, Of: 20}) }},
		{"0 5 30 posting sale 60 100 20 20", func(b *api.Books) {
			b.Postings = append(b.Postings, api.Posting{Id: 25, Hour: 30, Kind: api.PostSale, Parcel: 60, Amount: 100, Reason: 20, Known: 20})
		}},
	} {
		got, e := inquiry.Enter(b, recordOf(t, c.line))
		if c.want == nil {
			if !alike(got, api.Books{}) || e != api.ErrNone {
				t.Errorf("%q: %+v, error %d", c.line, got, e)
			}
			continue
		}
		want := booksB(t)
		c.want(&want)
		if !alike(got, want) || e != api.OK {
			t.Errorf("%q: %+v, error %d, want %+v", c.line, got, e, want)
		}
	}
}

// P9.1, I3: the errors of Enter, and their order.
func TestEnterErrors(t *testing.T) {
	b := entered(t, booksB(t), "0 5 20 posting sale 60 100 20 20")
	text := func(s string) api.Record { return api.Record{Station: 1, Number: 9, Hour: 30, Text: s} }
	for _, c := range []struct {
		what string
		x    api.Record
		want api.Errno
	}{
		{"no record", api.Record{}, api.ErrArg},
		{"no text", text(""), api.ErrArg},
		{"a text too long", text("paper " + strings.Repeat("x", 195)), api.ErrArg},
		{"a text with a line feed", text("paper void 5\n"), api.ErrArg},
		{"a text with a letter of two bytes", text("paper void 5\u00e4"), api.ErrArg},
		{"the station 5", api.Record{Station: 5, Number: 9, Hour: 30, Text: "nonsense"}, api.ErrArg},
		{"the station -1", api.Record{Station: -1, Number: 9, Hour: 30, Text: "paper void 5"}, api.ErrArg},
		{"the number 0", api.Record{Station: 1, Hour: 30, Text: "paper void 5"}, api.ErrArg},
		{"the number 401", api.Record{Station: 1, Number: 401, Hour: 30, Text: "paper void 5"}, api.ErrArg},
		{"an hour too late", api.Record{Station: 1, Number: 1, Hour: 1000001, Text: "paper void 5"}, api.ErrArg},
		{"numbers far away", api.Record{Station: math.MinInt, Number: math.MaxInt, Hour: math.MinInt, Text: "paper void 5"}, api.ErrArg},
		{"a word alone", text("paper"), api.ErrWord},
		{"a word and a blank", text("paper "), api.ErrWord},
		{"another word", text("papers void 5"), api.ErrWord},
		{"a blank before", text(" paper void 5"), api.ErrWord},
		{"two blanks", text("paper  void 5"), api.ErrWord},
		{"a blank behind", text("paper void 5 "), api.ErrWord},
		{"a capital letter", text("Paper void 5"), api.ErrWord},
		{"the word of another layer", text("wind void"), api.ErrWord},
		{"what is not well-formed", text("paper total 1 1 41 5 6"), api.ErrWord},
		{"a report at an hour behind its own", text("report 31 weighed 60 10 20"), api.ErrWord},
		{"a posting without a form, of another station", text("posting pay 7 60 0 20 20"), api.ErrWord},
		{"a posting of another station", text("posting pay 7 60 80 20 20"), api.ErrState},
		{"a posting of another station that would be refused", text("posting pay 7 60 101 20 20"), api.ErrState},
		{"a posting that is refused", api.Record{Number: 9, Hour: 30, Text: "posting pay 7 60 101 20 20"}, api.ErrPoor},
		{"a posting", api.Record{Number: 9, Hour: 30, Text: "posting pay 7 60 80 20 20"}, api.OK},
		{"a paper that is there", api.Record{Number: 1, Hour: 30, Text: "paper package 1 1 0 ab oil 40 60 2 7"}, api.ErrTwice},
		{"a void of no paper", text("paper void 6"), api.ErrNone},
		{"an early rate", api.Record{Station: 1, Number: 9, Hour: 9, Text: "rate rate 0 all 1 5 0 0"}, api.ErrTime},
		{"a parcel that was sold", text("sale 30 sale 60 1 0 0 0"), api.ErrSold},
		{"a parcel that is not there", text("report 30 weighed 70 1 1"), api.ErrParcel},
		{"one that is refused by another layer alone", text("sale 30 sale 70 1 0 0 0"), api.OK},
	} {
		got, e := inquiry.Enter(b, c.x)
		if e != c.want || e != api.OK && !alike(got, api.Books{}) {
			t.Errorf("%s: %+v, error %d, want %d", c.what, got, e, c.want)
		}
	}
	for want, b := range wrongBooks(t) {
		if got, e := inquiry.Enter(b, api.Record{}); !alike(got, api.Books{}) || e != want {
			t.Errorf("wrong books: %+v, error %d, want %d", got, e, want)
		}
	}
}

// P9.1, I3: the examples of Enter.
func TestEnterExamples(t *testing.T) {
	b := booksB(t)
	for text, want := range map[string]api.Errno{"paper void 5": api.OK, "paper": api.ErrWord, "posting pay 7 60 80 20 20": api.ErrState} {
		if _, e := inquiry.Enter(b, api.Record{Station: 1, Number: 3, Hour: 30, Text: text}); e != want {
			t.Errorf("%q: error %d, want %d", text, e, want)
		}
	}
}

// P9.1, I3: the books of the examples, whose records are entered in the one order.
func TestTold(t *testing.T) {
	b, errors, e := inquiry.Told(seasonC(t), 2, recordsOf(t, exampleLines...))
	if e != api.OK || !slices.Equal(errors, make([]api.Errno, 6)) {
		t.Errorf("errors %v, error %d", errors, e)
	}
	var ids []int
	for _, x := range b.Papers {
		ids = append(ids, x.Id)
	}
	for _, x := range b.Reports {
		ids = append(ids, x.Id)
	}
	ids = append(ids, b.Rates[0].Id, b.Sales[0].Id)
	if !slices.Equal(ids, []int{5, 10, 6, 11, 15, 20}) || len(b.Winds)+len(b.Deeds)+len(b.Postings) > 0 || !alike(b.Season, seasonC(t)) {
		t.Errorf("%+v", b)
	}
	if b, errors, e := inquiry.Told(seasonC(t), 5, nil); !alike(b, api.Books{Season: seasonC(t)}) || len(errors) > 0 || e != api.OK {
		t.Errorf("no records: %+v, errors %v, error %d", b, errors, e)
	}
}

// P9.1, I3: a record that is refused does nothing, and its error stands where it stands in the one order.
func TestToldRefused(t *testing.T) {
	lines := []string{
		"0 1 3 nonsense", "0 2 4 paper package 1 1 0 ab oil 40 60 2 7", "0 3 4 paper void 5", "0 4 8 posting sale 60 5 1 1",
		"1 1 2 paper void 10", "1 2 4 paper void 10", "1 3 5 posting sale 60 5 1 1", "1 4 9 paper void 10",
	}
	b, errors, e := inquiry.Told(seasonC(t), 2, recordsOf(t, lines...))
	// In the one order: 1 1, 0 1, 0 2, 0 3, 1 2, 1 3, 0 4, 1 4.
	want := []api.Errno{api.ErrNone, api.ErrWord, api.OK, api.ErrNone, api.OK, api.ErrState, api.OK, api.ErrTwice}
	if !slices.Equal(errors, want) || e != api.OK || len(b.Papers) != 2 || len(b.Postings) != 1 {
		t.Errorf("%+v, errors %v, want %v, error %d", b, errors, want, e)
	}
}

// P9.1, I3: the errors of Told, and their order.
func TestToldErrors(t *testing.T) {
	wrong := seasonC(t)
	wrong.Losses = make([]api.Loss, 21)
	good := recordsOf(t, exampleLines...)
	gap := []api.Record{good[0], good[2]}
	for _, c := range []struct {
		what string
		c    api.Season
		n    int
		l    []api.Record
		want api.Errno
	}{
		{"a wrong season, and no stations", wrong, 1, gap, api.ErrLimit},
		{"no season", api.Season{}, 2, good, api.ErrArg},
		{"one station", seasonC(t), 1, good, api.ErrArg},
		{"6 stations", seasonC(t), 6, nil, api.ErrArg},
		{"a gap", seasonC(t), 2, gap, api.ErrGap},
		{"records that are turned", seasonC(t), 2, []api.Record{good[4], good[0]}, api.ErrTwice},
		{"hours that descend", seasonC(t), 2, recordsOf(t, "0 1 5 x", "0 2 4 x"), api.ErrTime},
		{"a station too many", seasonC(t), 2, recordsOf(t, "2 1 5 paper void 5"), api.ErrArg},
		{"as many stations", seasonC(t), 3, recordsOf(t, "2 1 5 paper void 5"), api.OK},
	} {
		b, errors, e := inquiry.Told(c.c, c.n, c.l)
		if e != c.want || e != api.OK && (!alike(b, api.Books{}) || len(errors) > 0) {
			t.Errorf("%s: %+v, errors %v, error %d, want %d", c.what, b, errors, e, c.want)
		}
		causes, e := inquiry.Causes(c.c, c.n, c.l, 99, 99)
		if e != c.want || len(causes) > 0 {
			t.Errorf("Causes, %s: %+v, error %d, want %d", c.what, causes, e, c.want)
		}
	}
}

// lengths are how many elements the lists of books have.
func lengths(b api.Books) []int {
	return []int{len(b.Papers), len(b.Winds), len(b.Reports), len(b.Deeds), len(b.Rates), len(b.Sales), len(b.Postings)}
}

// P9.3: books of records are those that Enter makes of them, one after the other, and valid; each record appends one
// element to one list, or nothing; and it does not matter in which letters the records came.
func TestBooksOfRecords(t *testing.T) {
	for seed := range uint64(60) {
		c, r := randomTale(t, seed, 20+int(seed))
		book := r.book()
		b, errors, e := inquiry.Told(c, 3, book)
		if e != api.OK || len(errors) != len(book) || inquiry.CheckBooks(b) != api.OK {
			t.Fatalf("seed %d: errors %v, error %d", seed, errors, e)
		}
		steps := modelTell(c, book)
		if !alike(b, steps[len(steps)-1]) {
			t.Errorf("seed %d: %+v, want %+v", seed, b, steps[len(steps)-1])
		}
		for i, e := range errors {
			more := 0
			for j, n := range lengths(steps[i+1]) {
				more += n - lengths(steps[i])[j]
			}
			if more != 0 && more != 1 || (more == 1) != (e == api.OK) {
				t.Errorf("seed %d, record %d: %d more, error %d", seed, i, more, e)
			}
		}
		half, _ := post.Until(3, book, r.hour/2)
		merged, _ := post.Merge(3, book, half)
		if again, _, e := inquiry.Told(c, 3, merged); !alike(again, b) || e != api.OK {
			t.Errorf("seed %d: merged otherwise: error %d", seed, e)
		}
	}
}
