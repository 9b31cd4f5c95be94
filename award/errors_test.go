package award_test

import (
	"slices"
	"testing"

	"lagan/api"
	"lagan/award"
)

// P6.1: functions with lists first return the error of CheckRates, or that of CheckSales.
func TestErrorsOfLists(t *testing.T) {
	for want, l := range map[api.Errno][]api.Rate{
		api.ErrArg: {{}}, api.ErrLimit: manyRates(101), api.ErrTwice: {aRate, aRate}, api.ErrNone: {aRateVoid},
		api.ErrTime: readRates(t, "1 5 rate 0 all 0 1 0 0", "2 4 rate 0 all 0 1 0 0"),
	} {
		if x, e := award.RateOf(l, "oil", -1, 9); x != (api.Rate{}) || e != want {
			t.Errorf("RateOf: %+v, error %d, want %d", x, e, want)
		}
		if got, e := award.AppendRate(l, api.Rate{}); len(got) > 0 || e != want {
			t.Errorf("AppendRate: %+v, error %d, want %d", got, e, want)
		}
		if from, until, ok, e := award.Touched(l, api.Rate{}, "oil"); from != 0 || until != 0 || ok || e != want {
			t.Errorf("Touched: %d, %d, %v, error %d, want %d", from, until, ok, e, want)
		}
		if got := award.Turns(l, "oil", 9); len(got) > 0 {
			t.Errorf("Turns: %v", got)
		}
		if a, e := award.AwardOf(l, nil, 60, "oil", 9, 9, nil); !isAward(a, api.Award{}) || e != want {
			t.Errorf("AwardOf: %+v, error %d, want %d", a, e, want)
		}
	}
	for want, l := range map[api.Errno][]api.Sale{
		api.ErrArg: {{}}, api.ErrLimit: manySales(201), api.ErrTwice: {aSale, aSale}, api.ErrNone: {aSaleVoid},
		api.ErrTime: readSales(t, "1 5 0 sale 10 1 0 0 0", "2 4 0 sale 20 1 0 0 0"), api.ErrSold: readSales(t, "1 5 0 sale 10 1 0 0 0", "2 6 0 sale 10 1 0 0 0"),
	} {
		if x, e := award.SaleOf(l, 60, 9); x != (api.Sale{}) || e != want {
			t.Errorf("SaleOf: %+v, error %d, want %d", x, e, want)
		}
		if got, e := award.AppendSale(l, api.Sale{}); len(got) > 0 || e != want {
			t.Errorf("AppendSale: %+v, error %d, want %d", got, e, want)
		}
		if n, e := award.Value(l, so(201, 60), 9); n != 0 || e != want {
			t.Errorf("Value: %d, error %d, want %d", n, e, want)
		}
		if got := award.Sold(l, 9); len(got) > 0 {
			t.Errorf("Sold: %v", got)
		}
		if a, e := award.AwardOf(nil, l, 60, "oil", 9, 9, nil); !isAward(a, api.Award{}) || e != want {
			t.Errorf("AwardOf: %+v, error %d, want %d", a, e, want)
		}
	}
}

// R3: arguments are neither changed nor shared, and nil is as good as empty.
func TestMemory(t *testing.T) {
	r := sampleRates(t)
	s := sampleSales(t)
	keptRates, keptSales := slices.Clone(r), slices.Clone(s)
	x := readRates(t, "5 90 rate 5 oil 0 1 0 0")[0]
	y := readSales(t, "5 90 66 sale 30 5 0 0 0")[0]
	award.AppendRate(r[:2:4], x)
	award.AppendSale(s[:1:2], y)
	award.Touched(r[:2:4], readRates(t, "5 90 rate 5 oil 0 1 0 0")[0], "oil")
	longer, _ := award.AppendRate(r, x)
	more, _ := award.AppendSale(s, y)
	clear(longer)
	clear(more)
	clear(award.Turns(r, "oil", 50))
	clear(award.Sold(s, 70))
	finders := []int{5, 4, 5}
	award.Awarded(r[0], s[0], finders)
	award.AwardOf(r, s, 10, "oil", 12, 60, finders)
	parts, _ := award.Equal(8, finders)
	clear(parts)
	same(t, "the finders", finders, []int{5, 4, 5})
	parcels := []int{20, 10}
	award.Value(s, parcels, 70)
	same(t, "the parcels", parcels, []int{20, 10})
	l := shares(5, 3, 4, 2, 5, -3)
	merged, _ := award.Merge(l)
	clear(merged)
	changed, _ := award.Change(l, l[:1])
	clear(changed)
	award.Of(api.Award{Shares: l}, 5)
	same(t, "the shares", l, shares(5, 3, 4, 2, 5, -3))
	titles := []api.Title{{Party: 4, Share: frac(1, 3)}, {Party: 2, Share: frac(1, 2)}}
	divided, _, _ := award.Divide(10, titles)
	clear(divided)
	same(t, "the titles", titles, []api.Title{{Party: 4, Share: frac(1, 3)}, {Party: 2, Share: frac(1, 2)}})
	same(t, "the rates", r, keptRates)
	same(t, "the sales", s, keptSales)
	for _, none := range [][]api.Sale{nil, {}} {
		if n, e := award.Value(none, []int{}, 0); n != 0 || e != api.OK {
			t.Errorf("Value of nothing: %d, error %d", n, e)
		}
		if got, e := award.AppendSale(none, aSale); len(got) != 1 || e != api.OK {
			t.Errorf("AppendSale to nothing: %v, error %d", got, e)
		}
	}
	for _, none := range [][]api.Rate{nil, {}} {
		if got, e := award.AppendRate(none, aRate); len(got) != 1 || e != api.OK {
			t.Errorf("AppendRate to nothing: %v, error %d", got, e)
		}
	}
}
