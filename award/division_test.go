package award_test

import (
	"math"
	"math/rand/v2"
	"reflect"
	"slices"
	"testing"

	"lagan/api"
	"lagan/award"
)

// isAward reports whether an award is one, whatever an empty list of its Shares is.
func isAward(a, b api.Award) bool {
	shares := slices.Equal(a.Shares, b.Shares)
	a.Shares, b.Shares = nil, nil
	return shares && reflect.DeepEqual(a, b)
}

// P6.1, F6: the chapter's example, and the hours that are begun.
func TestFees(t *testing.T) {
	r := sampleRates(t)
	s := sampleSales(t)
	for _, c := range []struct {
		r           api.Rate
		s           api.Sale
		cart, store int
	}{
		{r[2], s[0], 10, 3}, {r[0], s[0], 20, 5}, {r[0], s[1], 20, 0},
		{r[0], readSales(t, "1 500 500 sale 10 1 0 3 500")[0], 0, 0}, {r[0], readSales(t, "1 500 500 sale 10 1 0 3 499")[0], 0, 5},
		{r[0], readSales(t, "1 500 500 sale 10 1 0 3 400")[0], 0, 5}, {r[0], readSales(t, "1 500 500 sale 10 1 0 3 399")[0], 0, 10},
		{r[0], readSales(t, "1 500 500 sale 10 1 0 3 300")[0], 0, 10}, {r[0], readSales(t, "1 500 500 sale 10 1 0 3 0")[0], 0, 25}, {r[0], readSales(t, "1 501 501 sale 10 1 0 3 0")[0], 0, 30},
		{r[0], readSales(t, "1 500 0 sale 10 1 3 3 0")[0], 20, 0}, {r[0], readSales(t, "1 500 500 sale 10 1 0 0 0")[0], 0, 0},
		{readRates(t, "1 0 rate 0 all 0 1 0 0")[0], s[0], 0, 0},
		{readRates(t, "1 0 rate 0 all 0 1 100000 100000")[0], readSales(t, "1 1000000 1000000 sale 10 1 40 40 0")[0], 100000, 1000000000},
		// What is paid does not depend on the hours from which a rate is in force, or known.
		{readRates(t, "1 1000000 rate 1000000 oil 0 1 7 9")[0], s[0], 7, 9},
	} {
		cart, store, e := award.Fees(c.r, c.s)
		if cart != c.cart || store != c.store || e != api.OK {
			t.Errorf("Fees(%+v, %+v): %d, %d, error %d, want %d, %d", c.r, c.s, cart, store, e, c.cart, c.store)
		}
	}
}

// spoiltRates are records that are no well-formed rates.
func spoiltRates() []api.Rate {
	l := []api.Rate{{}, aRateVoid, aRate, aRate, aRate, aRate, aRate, aRate}
	l[2].Id = 0
	l[3].Known = 1000001
	l[4].Goods = "all"
	l[5].Finder = frac(3, 2)
	l[6].Cart = -1
	l[7].Of = 3
	return l
}

// spoiltSales are records that are no well-formed sales.
func spoiltSales() []api.Sale {
	l := []api.Sale{{}, aSaleVoid, aSale, aSale, aSale, aSale, aSale, aSale}
	l[2].Id = 1000001
	l[3].Hour = 9
	l[4].Price = 0
	l[5].Keeper = 0
	l[6].Carter = 41
	l[7].Of = 3
	return l
}

// P6.1, F6, F8: the errors of Fees and of Awarded.
func TestFeesAndAwardedErrors(t *testing.T) {
	check := func(r api.Rate, s api.Sale) {
		t.Helper()
		if cart, store, e := award.Fees(r, s); cart != 0 || store != 0 || e != api.ErrArg {
			t.Errorf("Fees(%+v, %+v): %d, %d, error %d", r, s, cart, store, e)
		}
		if a, e := award.Awarded(r, s, []int{1}); !isAward(a, api.Award{}) || e != api.ErrArg {
			t.Errorf("Awarded(%+v, %+v): %+v, error %d", r, s, a, e)
		}
	}
	for _, r := range spoiltRates() {
		check(r, aSale)
		for _, s := range spoiltSales() {
			check(aRate, s)
			check(r, s)
		}
	}
	for _, finders := range badFinders() {
		if a, e := award.Awarded(aRate, aSale, finders); !isAward(a, api.Award{}) || e != api.ErrArg {
			t.Errorf("Awarded for %v: %+v, error %d", finders, a, e)
		}
	}
}

func badFinders() [][]int {
	return [][]int{nil, {}, {0}, {41}, {-1}, {1, 2, 0}, {math.MaxInt}, {math.MinInt, 1}, so(41, 1)}
}

// P6.1, F8: the chapter's examples, and prices that do not cover all.
func TestAwarded(t *testing.T) {
	r := sampleRates(t)
	s := sampleSales(t)
	full := readRates(t, "1 0 rate 0 all 1 1 10 3")[0]
	none := readRates(t, "1 0 rate 0 all 0 1 10 3")[0]
	third := readRates(t, "1 0 rate 0 all 1 3 0 0")[0]
	sale := func(line string) api.Sale { return readSales(t, line)[0] }
	for _, c := range []struct {
		what    string
		r       api.Rate
		s       api.Sale
		finders []int
		want    api.Award
	}{
		{"the first example", r[2], s[0], []int{4, 5, 4}, api.Award{Price: 100, Cart: 10, Store: 3, Find: 50, Rest: 37, Shares: shares(4, 33, 5, 17, 7, 10, 8, 3)}},
		{"the second example", r[0], s[1], []int{4}, api.Award{Price: 12, Cart: 12, Shares: shares(7, 12)}},
		{"the first of several get one more", r[2], s[0], []int{5, 4, 4}, api.Award{Price: 100, Cart: 10, Store: 3, Find: 50, Rest: 37, Shares: shares(4, 33, 5, 17, 7, 10, 8, 3)}},
		{"the last of several get one less", r[2], s[0], []int{4, 4, 5}, api.Award{Price: 100, Cart: 10, Store: 3, Find: 50, Rest: 37, Shares: shares(4, 34, 5, 16, 7, 10, 8, 3)}},
		{"all for one party", full, sale("1 60 55 sale 10 100 7 7 30"), []int{7}, api.Award{Price: 100, Cart: 10, Store: 3, Find: 87, Shares: shares(7, 100)}},
		{"the carter only", full, sale("1 60 55 sale 10 10 7 8 30"), []int{4}, api.Award{Price: 10, Cart: 10, Shares: shares(7, 10)}},
		{"less than the carter should get", full, sale("1 60 55 sale 10 9 7 8 30"), []int{4}, api.Award{Price: 9, Cart: 9, Shares: shares(7, 9)}},
		{"a part for the keeper", full, sale("1 60 55 sale 10 12 7 8 30"), []int{4}, api.Award{Price: 12, Cart: 10, Store: 2, Shares: shares(7, 10, 8, 2)}},
		{"all for the keeper", full, sale("1 60 55 sale 10 13 7 8 30"), []int{4}, api.Award{Price: 13, Cart: 10, Store: 3, Shares: shares(7, 10, 8, 3)}},
		{"one for the finders", full, sale("1 60 55 sale 10 14 7 8 30"), []int{4, 5}, api.Award{Price: 14, Cart: 10, Store: 3, Find: 1, Shares: shares(4, 1, 7, 10, 8, 3)}},
		{"nobody carted or stored", full, sale("1 60 55 sale 10 9 0 0 0"), []int{5, 4}, api.Award{Price: 9, Find: 9, Shares: shares(4, 4, 5, 5)}},
		{"nothing for anybody", none, sale("1 60 55 sale 10 9 0 0 0"), []int{5, 4}, api.Award{Price: 9, Rest: 9}},
		{"nothing for the finders", none, sale("1 60 55 sale 10 20 7 8 30"), []int{5, 4}, api.Award{Price: 20, Cart: 10, Store: 3, Rest: 7, Shares: shares(7, 10, 8, 3)}},
		{"rounded down", third, sale("1 60 55 sale 10 8 7 8 30"), []int{5}, api.Award{Price: 8, Find: 2, Rest: 6, Shares: shares(5, 2)}},
		{"rounded down to nothing", third, sale("1 60 55 sale 10 2 7 8 30"), []int{5}, api.Award{Price: 2, Rest: 2}},
		{"of the price, not of what is left", readRates(t, "1 0 rate 0 all 1 2 10 3")[0], sale("1 60 55 sale 10 20 7 8 30"), []int{5}, api.Award{Price: 20, Cart: 10, Store: 3, Find: 7, Shares: shares(5, 7, 7, 10, 8, 3)}},
		{"the most finders", full, sale("1 60 55 sale 10 40 0 0 0"), so(40, 40), api.Award{Price: 40, Find: 40, Shares: shares(40, 40)}},
		{"the greatest price", readRates(t, "1 0 rate 0 all 999999 1000000 0 0")[0], sale("1 60 55 sale 10 1000000000 0 0 0"), []int{1}, api.Award{Price: 1000000000, Find: 999999000, Rest: 1000, Shares: shares(1, 999999000)}},
	} {
		a, e := award.Awarded(c.r, c.s, c.finders)
		if !isAward(a, c.want) || e != api.OK {
			t.Errorf("%s: %+v, error %d, want %+v", c.what, a, e, c.want)
		}
	}
}

// randomPair returns a rate and a sale.
func randomPair(r *rand.Rand) (api.Rate, api.Sale) {
	x := api.Rate{Id: 1, Finder: randomPart(r), Cart: r.IntN(40), Store: r.IntN(10)}
	y := api.Sale{Id: 1, Known: 1000, Hour: r.IntN(1000), Parcel: 10, Price: 1 + r.IntN(150), Carter: r.IntN(5), Keeper: r.IntN(5)}
	if y.Keeper != 0 {
		y.Since = r.IntN(y.Hour + 1)
	}
	return x, y
}

// P6.1, F8, and P6.2: many awards, which add up.
func TestAwardedModel(t *testing.T) {
	r := rand.New(rand.NewPCG(6, 10))
	for range 10000 {
		x, y := randomPair(r)
		finders := randomFinders(r)
		a, e := award.Awarded(x, y, finders)
		if want := modelAwarded(x, y, finders); !isAward(a, want) || e != api.OK {
			t.Fatalf("Awarded(%+v, %+v, %v): %+v, error %d, want %+v", x, y, finders, a, e, want)
		}
		if min(a.Cart, a.Store, a.Find, a.Rest) < 0 || a.Cart+a.Store+a.Find+a.Rest != a.Price || a.Price != y.Price {
			t.Fatalf("Awarded(%+v, %+v, %v): %+v does not add up", x, y, finders, a)
		}
		sum := 0
		for party := -1; party <= 41; party++ {
			sum += award.Of(a, party)
		}
		if sum != a.Cart+a.Store+a.Find {
			t.Fatalf("Awarded(%+v, %+v, %v): the shares of %+v do not add up", x, y, finders, a)
		}
		divided, left, e := award.Divide(a.Rest, []api.Title{{Party: 0, Share: frac(1, 3)}, {Party: 5, Share: frac(2, 7)}})
		for _, x := range divided {
			left += x.Pence
		}
		if left != a.Rest || e != api.OK {
			t.Fatalf("Divide(%d): error %d, %d together", a.Rest, e, left)
		}
	}
}

// P6.7: with a greater price nobody gets less, and with a greater Finder the Rest is not greater.
func TestAwardedMore(t *testing.T) {
	r := rand.New(rand.NewPCG(6, 11))
	for range 5000 {
		x, y := randomPair(r)
		finders := randomFinders(r)
		a, _ := award.Awarded(x, y, finders)
		dearer := y
		dearer.Price += 1 + r.IntN(20)
		b, e := award.Awarded(x, dearer, finders)
		for party := 1; party <= 40; party++ {
			if award.Of(b, party) < award.Of(a, party) || b.Rest < a.Rest || e != api.OK {
				t.Fatalf("%+v, %+v, %v: %+v, for more %+v", x, y, finders, a, b)
			}
		}
		better := x
		better.Finder = randomPart(r)
		if better.Finder.Num*x.Finder.Den < x.Finder.Num*better.Finder.Den {
			continue
		}
		c, e := award.Awarded(better, y, finders)
		if c.Rest > a.Rest || e != api.OK {
			t.Fatalf("%+v, %+v, %v: %+v, for a greater part %+v", x, y, finders, a, c)
		}
	}
}

// P6.1, F8: the chapter's examples, each error, and their order.
func TestAwardOf(t *testing.T) {
	r := sampleRates(t)
	s := sampleSales(t, "3 80 void 1")
	for _, c := range []struct {
		what                string
		r                   []api.Rate
		s                   []api.Sale
		parcel              int
		goods               string
		hour, known         int
		finders             []int
		cart, find, restsTo int
		e                   api.Errno
	}{
		{"the example", r, s, 10, "oil", 12, 60, []int{4}, 10, 50, 37, api.OK},
		{"an earlier hour", r, s, 10, "oil", 5, 60, []int{4}, 10, 33, 54, api.OK},
		{"as known before the rate", r, s, 10, "oil", 12, 70, []int{4}, 10, 50, 37, api.OK},
		{"other goods", r, s, 10, "wine", 12, 60, []int{4}, 20, 25, 50, api.OK},
		{"no name", r, s, 10, "", 12, 60, []int{4}, 20, 25, 50, api.OK},
		{"as known behind the void", r, s, 20, "oil", 12, 90, []int{4}, 10, 2, 0, api.OK},
		{"not sold yet", r, s, 10, "oil", 12, 59, []int{4}, 0, 0, 0, api.ErrSold},
		{"not sold any more", r, s, 10, "oil", 12, 80, []int{4}, 0, 0, 0, api.ErrSold},
		{"not sold, no rate, no finders", r, s, 30, "oil", -1, 60, nil, 0, 0, 0, api.ErrSold},
		{"no rate", r, s, 10, "oil", -1, 60, []int{4}, 0, 0, 0, api.ErrRate},
		{"no rate, no finders", r, s, 10, "oil", -1, 60, nil, 0, 0, 0, api.ErrRate},
		{"no rate at all", nil, s, 10, "oil", 12, 60, []int{4}, 0, 0, 0, api.ErrRate},
		{"no sale at all", r, nil, 10, "oil", 12, 60, []int{4}, 0, 0, 0, api.ErrSold},
		{"rates that are no list, and nothing right", []api.Rate{aRate, aRate}, []api.Sale{aSaleVoid}, 30, "oil", -1, 60, nil, 0, 0, 0, api.ErrTwice},
		{"too many rates", manyRates(101), s, 10, "oil", 12, 60, []int{4}, 0, 0, 0, api.ErrLimit},
		{"sales that are no list, and nothing else right", r, []api.Sale{aSaleVoid}, 30, "oil", -1, 60, nil, 0, 0, 0, api.ErrNone},
		{"too many sales", r, manySales(201), 10, "oil", 12, 60, []int{4}, 0, 0, 0, api.ErrLimit},
		{"a rate that is not formed", []api.Rate{{}}, s, 10, "oil", 12, 60, []int{4}, 0, 0, 0, api.ErrArg},
	} {
		a, e := award.AwardOf(c.r, c.s, c.parcel, c.goods, c.hour, c.known, c.finders)
		if e != c.e || a.Cart != c.cart || a.Find != c.find || a.Rest != c.restsTo || e != api.OK && !isAward(a, api.Award{}) {
			t.Errorf("%s: %+v, error %d, want error %d", c.what, a, e, c.e)
		}
	}
	for _, finders := range badFinders() {
		if a, e := award.AwardOf(r, s, 10, "oil", 12, 60, finders); !isAward(a, api.Award{}) || e != api.ErrArg {
			t.Errorf("AwardOf for %v: %+v, error %d", finders, a, e)
		}
	}
}

// P6.1, F8, and P6.5: many lists, and what is known later.
func TestAwardOfModel(t *testing.T) {
	r := rand.New(rand.NewPCG(6, 12))
	awarded := 0
	for range 5000 {
		x, y := randomRates(r, r.IntN(20)), randomSales(r, r.IntN(20))
		parcel, goods, hour, known := 10*(1+r.IntN(6)), randomGoods(r), r.IntN(14)-1, r.IntN(24)
		finders := randomFinders(r)
		s, e := award.SaleOf(y, parcel, known)
		rate, g := modelRateOf(x, goods, hour, known)
		want := api.Award{}
		if e == api.OK {
			e = g
		}
		if e == api.OK {
			want = modelAwarded(rate, s, finders)
			awarded++
		}
		a, h := award.AwardOf(x, y, parcel, goods, hour, known, finders)
		if !isAward(a, want) || h != e {
			t.Fatalf("AwardOf(%+v, %+v, %d, %q, %d, %d): %+v, error %d, want %+v, error %d", x, y, parcel, goods, hour, known, a, h, want, e)
		}
		x = slices.DeleteFunc(x, func(x api.Rate) bool { return x.Known > known })
		y = slices.DeleteFunc(y, func(x api.Sale) bool { return x.Known > known })
		if a, h := award.AwardOf(x, y, parcel, goods, hour, known, finders); !isAward(a, want) || h != e {
			t.Fatalf("AwardOf depends on what is known later: %+v, error %d, want %+v, error %d", a, h, want, e)
		}
	}
	if awarded < 500 {
		t.Errorf("only %d awards", awarded)
	}
}
