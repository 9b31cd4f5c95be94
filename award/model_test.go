package award_test

import (
	"math/rand/v2"
	"slices"
	"testing"

	"lagan/api"
	"lagan/award"
)

// The model says what chapter 6 says, as directly as possible, and slowly.

// read returns the records with some lines, in any order and number.
func read[T any](t testing.TB, readLine func(string) (T, api.Errno), lines []string) []T {
	t.Helper()
	var l []T
	for _, s := range lines {
		x, e := readLine(s)
		if e != api.OK {
			t.Fatalf("reading %q: error %d", s, e)
		}
		l = append(l, x)
	}
	return l
}

// valid returns a list that is valid.
func valid[T any](t testing.TB, l []T, check func([]T) (int, api.Errno)) []T {
	t.Helper()
	if i, e := check(l); i != 0 || e != api.OK {
		t.Fatalf("checking %+v: %d, error %d", l, i, e)
	}
	return l
}

func readRates(t testing.TB, lines ...string) []api.Rate {
	t.Helper()
	return read(t, award.ReadRate, lines)
}

func readSales(t testing.TB, lines ...string) []api.Sale {
	t.Helper()
	return read(t, award.ReadSale, lines)
}

// rates returns the records of rates with some lines, which are a valid list.
func rates(t testing.TB, lines ...string) []api.Rate {
	t.Helper()
	return valid(t, readRates(t, lines...), award.CheckRates)
}

// sales returns the records of sales with some lines, which are a valid list.
func sales(t testing.TB, lines ...string) []api.Sale {
	t.Helper()
	return valid(t, readSales(t, lines...), award.CheckSales)
}

// sampleRates is the list r of the chapter's examples, and what is behind it.
func sampleRates(t testing.TB, more ...string) []api.Rate {
	t.Helper()
	return rates(t, append([]string{
		"1 0 rate 0 all 1 4 20 5",
		"2 0 rate 0 oil 1 3 10 3",
		"3 50 rate 10 oil 1 2 10 3",
		"4 90 void 3",
	}, more...)...)
}

// sampleSales is the list s of the chapter's examples, and what is behind it.
func sampleSales(t testing.TB, more ...string) []api.Sale {
	t.Helper()
	return sales(t, append([]string{
		"1 60 55 sale 10 100 7 8 30",
		"2 70 66 sale 20 12 7 0 0",
	}, more...)...)
}

// same compares lists.
func same[T comparable](t testing.TB, what string, got, want []T) {
	t.Helper()
	if !slices.Equal(got, want) {
		t.Errorf("%s: %v, want %v", what, got, want)
	}
}

func frac(num, den int) api.Frac { return api.Frac{Num: num, Den: den} }

// shares returns shares of parties: party, pence, party, pence, ..
func shares(numbers ...int) []api.Share {
	var out []api.Share
	for i := 0; i < len(numbers); i += 2 {
		out = append(out, api.Share{Party: numbers[i], Pence: numbers[i+1]})
	}
	return out
}

// rateCounts reports whether a record of a list counts.
func rateCounts(l []api.Rate, x api.Rate, known int) bool {
	for _, v := range l {
		if v.Of == x.Id && v.Known <= known {
			return false
		}
	}
	return x.Of == 0 && x.Known <= known
}

// modelRateOf returns what RateOf should return.
func modelRateOf(l []api.Rate, goods string, hour, known int) (api.Rate, api.Errno) {
	for _, name := range []string{goods, ""} {
		for from := min(hour, 1000000); from >= 0; from-- {
			for _, x := range slices.Backward(l) {
				if x.From == from && x.Goods == name && rateCounts(l, x, known) {
					return x, api.OK
				}
			}
		}
	}
	return api.Rate{}, api.ErrRate
}

// saleCounts reports whether a record of a list counts.
func saleCounts(l []api.Sale, x api.Sale, known int) bool {
	for _, v := range l {
		if v.Of == x.Id && v.Known <= known {
			return false
		}
	}
	return x.Of == 0 && x.Known <= known
}

// modelRefusal returns the error of the last record of a list by its number in it, Ids, Knowns, Ofs and Parcels (0 for
// rates) of all of them, if all but this one are a valid list.
func modelRefusal(most int, ids, knowns, ofs, parcels []int) api.Errno {
	i := len(ids) - 1
	at := -1
	if ofs[i] != 0 {
		at = slices.Index(ids[:i], ofs[i])
	}
	switch {
	case i >= most:
		return api.ErrLimit
	case slices.Contains(ids[:i], ids[i]):
		return api.ErrTwice
	case i > 0 && knowns[i] < knowns[i-1]:
		return api.ErrTime
	case ofs[i] != 0 && (at < 0 || ofs[at] != 0):
		return api.ErrNone
	case ofs[i] != 0 && slices.Contains(ofs[:i], ofs[i]):
		return api.ErrTwice
	}
	for j := range i {
		if parcels[i] != 0 && parcels[j] == parcels[i] && !slices.Contains(ofs[:i], ids[j]) {
			return api.ErrSold
		}
	}
	return api.OK
}

// modelCheckRates returns what CheckRates should return for well-formed records.
func modelCheckRates(l []api.Rate) (int, api.Errno) {
	var ids, knowns, ofs []int
	for i, x := range l {
		ids, knowns, ofs = append(ids, x.Id), append(knowns, x.Known), append(ofs, x.Of)
		if e := modelRefusal(100, ids, knowns, ofs, make([]int, i+1)); e != api.OK {
			return i, e
		}
	}
	return 0, api.OK
}

// modelCheckSales returns what CheckSales should return for well-formed records.
func modelCheckSales(l []api.Sale) (int, api.Errno) {
	var ids, knowns, ofs, parcels []int
	for i, x := range l {
		ids, knowns, ofs, parcels = append(ids, x.Id), append(knowns, x.Known), append(ofs, x.Of), append(parcels, x.Parcel)
		if e := modelRefusal(200, ids, knowns, ofs, parcels); e != api.OK {
			return i, e
		}
	}
	return 0, api.OK
}

// modelAwarded returns what Awarded should return for a rate, a sale and finders that are as said.
func modelAwarded(r api.Rate, s api.Sale, finders []int) api.Award {
	a := api.Award{Price: s.Price}
	if s.Carter != 0 {
		a.Cart = min(r.Cart, s.Price)
	}
	if s.Keeper != 0 {
		for hour := s.Since; hour < s.Hour; hour += 100 {
			a.Store += r.Store
		}
		a.Store = min(a.Store, s.Price-a.Cart)
	}
	a.Find = min(s.Price*r.Finder.Num/r.Finder.Den, s.Price-a.Cart-a.Store)
	a.Rest = s.Price - a.Cart - a.Store - a.Find
	var gains [41]int
	gains[s.Carter] += a.Cart
	gains[s.Keeper] += a.Store
	for i, party := range finders {
		gains[party] += a.Find / len(finders)
		if i < a.Find%len(finders) {
			gains[party]++
		}
	}
	for party, pence := range gains {
		if pence != 0 {
			a.Shares = append(a.Shares, api.Share{Party: party, Pence: pence})
		}
	}
	return a
}

// randomPart returns a valid fraction from 0 to 1.
func randomPart(r *rand.Rand) api.Frac {
	den := 1 + r.IntN(6)
	if r.IntN(4) == 0 {
		den = 1 + r.IntN(1000000)
	}
	for {
		if a := frac(r.IntN(den+1), den); lowest(a) {
			return a
		}
	}
}

func lowest(a api.Frac) bool {
	for a.Den != 0 {
		a.Num, a.Den = a.Den, a.Num%a.Den
	}
	return a.Num == 1
}

// randomGoods returns names of goods, or all goods.
func randomGoods(r *rand.Rand) string { return []string{"", "oil", "wine"}[r.IntN(3)] }

// randomRate returns a well-formed record behind a list, which need not be possible behind it.
func randomRate(r *rand.Rand, l []api.Rate) api.Rate {
	x := api.Rate{Id: 1 + r.IntN(40)}
	if len(l) > 0 {
		x.Known = max(l[len(l)-1].Known+r.IntN(5)-1, 0)
	}
	if len(l) > 0 && r.IntN(4) == 0 {
		x.Of = l[r.IntN(len(l))].Id + r.IntN(8)/7
		return x
	}
	x.From, x.Goods, x.Finder, x.Cart, x.Store = r.IntN(12), randomGoods(r), randomPart(r), r.IntN(30), r.IntN(10)
	return x
}

// randomRates returns a valid list of at most so many records.
func randomRates(r *rand.Rand, tries int) []api.Rate {
	var l []api.Rate
	for range tries {
		if m, e := award.AppendRate(l, randomRate(r, l)); e == api.OK {
			l = m
		}
	}
	return l
}

// randomSale returns a well-formed record behind a list, which need not be possible behind it.
func randomSale(r *rand.Rand, l []api.Sale) api.Sale {
	x := api.Sale{Id: 1 + r.IntN(40)}
	if len(l) > 0 {
		x.Known = max(l[len(l)-1].Known+r.IntN(5)-1, 0)
	}
	if len(l) > 0 && r.IntN(3) == 0 {
		x.Of = l[r.IntN(len(l))].Id + r.IntN(8)/7
		return x
	}
	x.Hour, x.Parcel, x.Price = r.IntN(x.Known+1), 10*(1+r.IntN(6)), 1+r.IntN(100)
	x.Carter, x.Keeper = r.IntN(4), r.IntN(4)
	if x.Keeper != 0 {
		x.Since = r.IntN(x.Hour + 1)
	}
	return x
}

// randomSales returns a valid list of at most so many records.
func randomSales(r *rand.Rand, tries int) []api.Sale {
	var l []api.Sale
	for range tries {
		if m, e := award.AppendSale(l, randomSale(r, l)); e == api.OK {
			l = m
		}
	}
	return l
}

// randomFinders returns parties from 1 to 6, some of them more than once.
func randomFinders(r *rand.Rand) []int {
	out := make([]int, 1+r.IntN(6))
	for i := range out {
		out[i] = 1 + r.IntN(6)
	}
	return out
}
