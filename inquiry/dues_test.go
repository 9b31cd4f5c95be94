package inquiry_test

import (
	"math"
	"slices"
	"testing"

	"lagan/api"
	"lagan/award"
	"lagan/inquiry"
)

// checkDues holds the dues for a parcel against what they should be: parties, each with its amount behind it.
func checkDues(t testing.TB, b api.Books, known, parcel, hour int, want ...int) {
	t.Helper()
	if l, e := inquiry.DuesOf(b, known, parcel, hour); !slices.Equal(l, dues(parcel, want...)) || e != api.OK {
		t.Errorf("DuesOf of %d, known at %d, at %d: %v, error %d, want %v", parcel, known, hour, l, e, want)
	}
}

// P9.1, I6: the examples.
func TestDuesExamples(t *testing.T) {
	b := booksB(t)
	checkDues(t, b, 20, 60, 20, 4, 20, 7, 80)
	checkDues(t, b, 20, 60, 8788, 0, 80, 4, 20)
	if l, e := inquiry.DuesOf(b, 20, 110, 20); len(l) > 0 || e != api.ErrSold {
		t.Errorf("DuesOf: %v, error %d", l, e)
	}
	if l, e := inquiry.Dues(b, 20, 20); !slices.Equal(l, dues(60, 4, 20, 7, 80)) || e != api.OK {
		t.Errorf("Dues: %v, error %d", l, e)
	}
}

// P9.1, I6: the award is by the rate at the least Hour of the origins, for the goods of the parcel, and the finders are those
// of the origins; a party that is several of them gets it together.
func TestDuesOf(t *testing.T) {
	lines := []string{
		"0 1 0 paper package 1 1 0 ab oil 40 60 3 7", "0 2 0 paper package 1 2 0 zz wool 5 90 1 8",
		"0 3 0 rate rate 0 all 1 4 8 2", "0 4 0 rate rate 4 all 1 2 8 2", "0 5 0 rate rate 4 oil 1 5 0 0",
		"1 1 5 report 3 found 1 ab oil 1 2 4", "1 2 6 report 5 found 0 ab oil 1 2 5", "1 3 6 report 5 found 0 ?? oil 1 2 7", "1 4 7 report 6 found 0 zz wool 1 2 5",
		"1 5 8 report 8 joined 60 110", "1 6 9 report 9 joined 160 210",
		"2 1 20 sale 20 sale 260 1001 7 9 20", "2 2 21 sale 20 sale 310 1001 7 7 0",
	}
	b := told(t, seasonC(t), lines...)
	// 260: oil, found at 3 and 5, by 4 and 5: 1/4 of 1001 for both, 8 for the carter, and nothing for the keeper.
	checkDues(t, b, 20, 260, 20, 4, 125, 5, 125, 7, 751)
	// 310: mixed goods, found at 5 and 6, by 7 and 5: 1/2 for both, 8 for carting and 2 for storing; nothing is sure of it.
	checkDues(t, b, 21, 310, 20, 5, 250, 7, 260)
	// The oil alone has a rate of its own.
	alone := entered(t, b, "2 3 21 sale 20 sale 160 100 0 0 0")
	checkDues(t, alone, 21, 160, 20, 7, 100)
	for _, c := range []struct {
		known, hour int
		want        []api.Due
	}{
		{19, 20, nil},
		{20, 20, dues(260, 4, 125, 5, 125, 7, 751)},
		{21, 20, append(dues(260, 4, 125, 5, 125, 7, 751), dues(310, 5, 250, 7, 260)...)},
		{21, math.MaxInt, append(dues(260, 0, 743, 4, 125, 5, 125, 7, 8), dues(310, 0, 491, 5, 250, 7, 260)...)},
		{math.MinInt, 20, nil},
	} {
		if l, e := inquiry.Dues(b, c.known, c.hour); !slices.Equal(l, c.want) || e != api.OK {
			t.Errorf("Dues, known at %d, at %d: %v, error %d, want %v", c.known, c.hour, l, e, c.want)
		}
	}
}

// P9.1, I6: without an assignment, and where nothing is sure, the Shares of the award alone are due.
func TestDuesWithoutTitles(t *testing.T) {
	b := entered(t, booksB(t), "2 1 21 report 21 found 0 cd oil 1 2 4", "2 2 21 sale 20 sale 110 50 0 0 0")
	checkDues(t, b, 21, 60, 20, 4, 20, 7, 80)
	checkDues(t, b, 21, 110, 20, 5, 10, 7, 40)
	none := entered(t, b, "2 3 22 report 21 found 0 cd oil 1 2 4")
	checkDues(t, none, 22, 60, 20, 4, 20)
	checkDues(t, none, 21, 60, 20, 4, 20, 7, 80)
	strange := entered(t, b, "2 3 22 report 21 found 0 cd wool 1 2 4", "2 4 23 sale 22 sale 170 9 0 0 0")
	checkDues(t, strange, 23, 170, 20, 4, 1)
	checkDues(t, strange, 23, 170, 9000, 0, 8, 4, 1)
	checkDues(t, entered(t, boundless(t), "0 5 21 sale 20 sale 110 50 0 0 0"), 21, 60, 20, 4, 20)
	// A party with a share of 0 pence has no due.
	poor := entered(t, booksB(t), "0 5 21 deed 0 paid 1 1 7 9 1 1000", "0 6 21 sale 20 sale 110 50 0 0 0")
	checkDues(t, poor, 21, 110, 20, 5, 10, 7, 40)
	free := entered(t, booksB(t), "0 5 21 rate rate 0 all 0 1 0 0", "0 6 21 rate rate 0 oil 1 1 0 0", "0 7 21 sale 20 sale 110 50 0 0 0")
	checkDues(t, free, 21, 110, 20, 5, 50)
}

// P9.1, I6: the errors, and their order.
func TestDuesErrors(t *testing.T) {
	for want, b := range wrongBooks(t) {
		if l, e := inquiry.DuesOf(b, 20, 9, 9); len(l) > 0 || e != want {
			t.Errorf("DuesOf of wrong books: %v, error %d, want %d", l, e, want)
		}
		if l, e := inquiry.Dues(b, 20, 9); len(l) > 0 || e != want {
			t.Errorf("Dues of wrong books: %v, error %d, want %d", l, e, want)
		}
	}
	finds := func(n, slots int) (api.Books, int) {
		b := addFinds(manySlots(t, slots), n)
		return b, joined(&b, n)
	}
	sell := func(b api.Books, parcel int) api.Books {
		b.Sales = []api.Sale{{Id: 1, Known: 1000, Hour: 1000, Parcel: parcel, Price: 100}}
		return b
	}
	rate := func(b api.Books) api.Books {
		b.Rates = []api.Rate{{Id: 1, Finder: api.Frac{Num: 1, Den: 2}}}
		return b
	}
	for _, c := range []struct {
		what      string
		n, slots  int
		sold, has bool
		want      api.Errno
	}{
		{"41 origins and 201 slots, not sold", 41, 201, false, true, api.ErrSold},
		{"41 origins and 201 slots, without a rate", 41, 201, true, false, api.ErrRate},
		{"41 origins and 201 slots", 41, 201, true, true, api.ErrArg},
		{"40 origins and 201 slots", 40, 201, true, true, api.ErrLimit},
		{"40 origins and 26 slots", 40, 26, true, true, api.ErrLimit},
		{"40 origins and 25 slots, so that there is no assignment", 40, 25, true, true, api.OK},
		{"20 origins and 50 slots", 20, 50, true, true, api.OK},
	} {
		b, parcel := finds(c.n, c.slots)
		if c.sold {
			b = sell(b, parcel)
		}
		if c.has {
			b = rate(b)
		}
		l, e := inquiry.DuesOf(b, 1000, parcel, 9)
		if e != c.want || e != api.OK && len(l) > 0 {
			t.Errorf("%s: %v, error %d, want %d", c.what, l, e, c.want)
		}
		if l, e := inquiry.DuesOf(b, 1000, parcel+1, 9); len(l) > 0 || e != api.ErrParcel {
			t.Errorf("%s, another parcel: %v, error %d", c.what, l, e)
		}
		// Dues leaves out what has an error.
		if all, e := inquiry.Dues(b, 1000, 9); !slices.Equal(all, l) || e != api.OK {
			t.Errorf("%s: all dues %v, error %d", c.what, all, e)
		}
	}
	if l, e := inquiry.DuesOf(entered(t, boundless(t)), 20, 60, 8788); len(l) > 0 || e != api.ErrLimit {
		t.Errorf("titles that are not in range: %v, error %d", l, e)
	}
	// A parcel that was sold, and is none.
	none := entered(t, booksB(t), "2 1 21 sale 20 sale 70 5 0 0 0", "2 2 22 report 21 same 110 60")
	if l, e := inquiry.Dues(none, 22, 22); len(l) > 0 || e != api.OK {
		t.Errorf("parcels that are none: %v, error %d", l, e)
	}
	if l, e := inquiry.DuesOf(none, 22, 60, 22); len(l) > 0 || e != api.ErrParcel {
		t.Errorf("a parcel that is none: %v, error %d", l, e)
	}
}

// shared returns books in which so many finds of one package, which 40 parties have in equal shares, were sold.
func shared(t testing.TB, n int) api.Books {
	b := manySlots(t, 1)
	b.Papers[0].Pieces, b.Papers[0].Owner = 20, 1
	for party := 40; party > 1; party-- {
		b.Deeds = append(b.Deeds, api.Deed{
			Id: party, Kind: api.DeedSold, Loss: 2, Pack: 1, From: 1, To: party, Share: api.Frac{Num: 1, Den: party},
		})
	}
	b = addFinds(b, n)
	b.Rates = []api.Rate{{Id: 1, Finder: api.Frac{Num: 0, Den: 1}}}
	for i := range n {
		b.Sales = append(b.Sales, api.Sale{Id: i + 1, Known: 1000, Hour: 1000, Parcel: 10*i + 10, Price: 400})
	}
	return b
}

// P9.1, I6: at most 400 dues.
func TestManyDues(t *testing.T) {
	l, e := inquiry.Dues(shared(t, 10), 1000, 9)
	if len(l) != 400 || e != api.OK || l[0] != (api.Due{Party: 1, Parcel: 10, Amount: 10}) || l[399] != (api.Due{Party: 40, Parcel: 100, Amount: 10}) {
		t.Errorf("%d dues, error %d", len(l), e)
	}
	if l, e := inquiry.Dues(shared(t, 11), 1000, 9); len(l) > 0 || e != api.ErrLimit {
		t.Errorf("%d dues, error %d", len(l), e)
	}
	if l, e := inquiry.DuesOf(shared(t, 11), 1000, 110, 9); len(l) != 40 || e != api.OK {
		t.Errorf("%d dues, error %d", len(l), e)
	}
}

// P9.1, I6, P9.5: the model on random records; the dues for a parcel add up to at most its price.
func TestDuesModel(t *testing.T) {
	some := 0
	for seed := range uint64(200) {
		c, r := randomTale(t, 2000+seed, 20+int(seed%60))
		b, _, _ := inquiry.Told(c, 3, r.book())
		if !isSmall(b, r.hour) {
			continue
		}
		known, hour := r.hour, r.hour+r.IntN(2)*8770
		var all []api.Due
		for _, parcel := range award.Sold(b.Sales, known) {
			want, g := modelDues(b, known, parcel, hour)
			l, e := inquiry.DuesOf(b, known, parcel, hour)
			if !slices.Equal(l, want) || e != g {
				t.Errorf("seed %d, %d: %v, error %d, want %v, %d", seed, parcel, l, e, want, g)
			}
			sum := 0
			for _, x := range l {
				sum += x.Amount
				if x.Amount <= 0 {
					t.Errorf("seed %d, %d: %v", seed, parcel, l)
				}
			}
			if sale, _ := award.SaleOf(b.Sales, parcel, known); sum > sale.Price {
				t.Errorf("seed %d, %d: %v of %d", seed, parcel, l, sale.Price)
			}
			all = append(all, l...)
			some += len(l)
		}
		if l, e := inquiry.Dues(b, known, hour); !slices.Equal(l, all) || e != api.OK {
			t.Errorf("seed %d: %v, error %d, want %v", seed, l, e, all)
		}
	}
	if some < 100 {
		t.Errorf("only %d dues", some)
	}
}
