package award_test

import (
	"math"
	"math/rand/v2"
	"slices"
	"strings"
	"testing"

	"lagan/api"
	"lagan/award"
)

var (
	aRate     = api.Rate{Id: 9, Known: 8, From: 7, Goods: "oil", Finder: api.Frac{Num: 1, Den: 2}, Cart: 6, Store: 5}
	aRateVoid = api.Rate{Id: 9, Known: 8, Of: 4}
)

// P6.1, F1: each number of a rate and of a void, at its ends and beyond them.
func TestCheckRate(t *testing.T) {
	check := func(x api.Rate, want api.Errno) {
		t.Helper()
		if e := award.CheckRate(x); e != want {
			t.Errorf("%+v: error %d, want %d", x, e, want)
		}
	}
	for _, f := range []struct {
		of                func(x *api.Rate) *int
		low, high         int // of a rate
		lowVoid, highVoid int
	}{
		{func(x *api.Rate) *int { return &x.Id }, 1, 1000000, 1, 1000000},
		{func(x *api.Rate) *int { return &x.Known }, 0, 1000000, 0, 1000000},
		{func(x *api.Rate) *int { return &x.From }, 0, 1000000, 0, 0},
		{func(x *api.Rate) *int { return &x.Cart }, 0, 100000, 0, 0},
		{func(x *api.Rate) *int { return &x.Store }, 0, 100000, 0, 0},
		{func(x *api.Rate) *int { return &x.Of }, 0, 0, 1, 1000000},
	} {
		for i, x := range []api.Rate{aRate, aRateVoid} {
			low, high := f.low, f.high
			if i == 1 {
				low, high = f.lowVoid, f.highVoid
			}
			for n, want := range map[int]api.Errno{low: api.OK, high: api.OK, low - 1: api.ErrArg, high + 1: api.ErrArg, math.MinInt: api.ErrArg, math.MaxInt: api.ErrArg} {
				y := x
				*f.of(&y) = n
				check(y, want)
			}
		}
	}
	check(api.Rate{}, api.ErrArg)
	check(api.Rate{Id: 1}, api.ErrArg)
	check(api.Rate{Id: 1, Finder: frac(0, 1)}, api.OK)
	check(api.Rate{Id: 9, Of: 9}, api.OK)
}

// P6.1, F1: goods that are names, or all goods, and others.
func TestCheckRateGoods(t *testing.T) {
	for goods, want := range map[string]api.Errno{
		"": api.OK, "a": api.OK, "z9": api.OK, "oil": api.OK, "a-": api.OK, "al": api.OK, "alll": api.OK, "all-": api.OK, "a0-z9": api.OK, "rate": api.OK, "void": api.OK,
		strings.Repeat("a", 24): api.OK, strings.Repeat("a", 25): api.ErrArg, strings.Repeat("a", 100000): api.ErrArg,
		"all": api.ErrArg, "-a": api.ErrArg, "0a": api.ErrArg, "9": api.ErrArg, "A": api.ErrArg, "aB": api.ErrArg, "a b": api.ErrArg, " a": api.ErrArg, "a ": api.ErrArg, "a_b": api.ErrArg,
		"a\n": api.ErrArg, "a\x00": api.ErrArg, "\u00e4": api.ErrArg, "a\u00e4": api.ErrArg, "\xff": api.ErrArg, "`": api.ErrArg, "a{": api.ErrArg, "{": api.ErrArg, "a`": api.ErrArg, "a/": api.ErrArg, "a:": api.ErrArg, "a.": api.ErrArg, " ": api.ErrArg,
	} {
		x := aRate
		x.Goods = goods
		if e := award.CheckRate(x); e != want {
			t.Errorf("goods %q: error %d, want %d", goods, e, want)
		}
		y := aRateVoid
		y.Goods = goods
		if e := award.CheckRate(y); (e == api.OK) != (goods == "") || e != api.OK && e != api.ErrArg {
			t.Errorf("goods %q of a void: error %d", goods, e)
		}
	}
}

// P6.1, F1: the part of the finders, and that a void has none.
func TestCheckRateFinder(t *testing.T) {
	for a, want := range map[api.Frac]api.Errno{
		frac(0, 1): api.OK, frac(1, 1): api.OK, frac(1, 1000000): api.OK, frac(999999, 1000000): api.OK, frac(2, 3): api.OK,
		{}: api.ErrArg, frac(0, 2): api.ErrArg, frac(2, 2): api.ErrArg, frac(2, 4): api.ErrArg, frac(3, 2): api.ErrArg, frac(2, 1): api.ErrArg, frac(1000000, 999999): api.ErrArg,
		frac(-1, 2): api.ErrArg, frac(1, -2): api.ErrArg, frac(-1, -2): api.ErrArg, frac(0, -1): api.ErrArg, frac(1, 0): api.ErrArg, frac(1, 1000001): api.ErrArg, frac(1000000, 1000001): api.ErrArg,
		frac(math.MinInt, math.MinInt): api.ErrArg, frac(math.MaxInt, math.MaxInt): api.ErrArg, frac(1, math.MaxInt): api.ErrArg, frac(0, math.MinInt): api.ErrArg, frac(math.MinInt, 1): api.ErrArg,
	} {
		x := aRate
		x.Finder = a
		if e := award.CheckRate(x); e != want {
			t.Errorf("%v: error %d, want %d", a, e, want)
		}
		y := aRateVoid
		y.Finder = a
		if e := award.CheckRate(y); (e == api.OK) != (a == api.Frac{}) || e != api.OK && e != api.ErrArg {
			t.Errorf("%v of a void: error %d", a, e)
		}
	}
}

func rateLists() lists[api.Rate] {
	return lists[api.Rate]{award.CheckRates, award.AppendRate}
}

// manyRates returns so many rates, which are a valid list if they are not too many.
func manyRates(count int) []api.Rate {
	var l []api.Rate
	for i := range count {
		x := aRate
		x.Id = 1000 - i
		l = append(l, x)
	}
	return l
}

// P6.1, F1: each error of CheckRates and of AppendRate, and their order.
func TestCheckRates(t *testing.T) {
	l := sampleRates(t)
	rateLists().checkBehind(t, l, []behind[api.Rate]{
		{"nothing", api.Rate{}, api.ErrArg},
		{"not formed, an Id twice", api.Rate{Id: 1}, api.ErrArg},
		{"not formed, early", api.Rate{Id: 9, Known: 1, Of: 1, From: 1}, api.ErrArg},
		{"an Id twice", readRates(t, "1 90 rate 0 all 0 1 0 0")[0], api.ErrTwice},
		{"an Id twice, early", readRates(t, "1 89 rate 0 all 0 1 0 0")[0], api.ErrTwice},
		{"the Id of a void, early, of nothing", readRates(t, "4 89 void 77")[0], api.ErrTwice},
		{"early", readRates(t, "20 89 rate 0 all 0 1 0 0")[0], api.ErrTime},
		{"early, of nothing", readRates(t, "20 89 void 77")[0], api.ErrTime},
		{"early, of a void rate", readRates(t, "20 89 void 3")[0], api.ErrTime},
		{"a void of nothing", readRates(t, "20 90 void 77")[0], api.ErrNone},
		{"a void of itself", readRates(t, "20 90 void 20")[0], api.ErrNone},
		{"a void of a void", readRates(t, "20 90 void 4")[0], api.ErrNone},
		{"a void twice", readRates(t, "20 90 void 3")[0], api.ErrTwice},
		{"a void", readRates(t, "20 90 void 1")[0], api.OK},
		{"a void that is known later", readRates(t, "20 1000000 void 2")[0], api.OK},
		{"a rate like another one", readRates(t, "20 90 rate 0 all 1 4 20 5")[0], api.OK},
		{"a rate like a void one", readRates(t, "20 90 rate 10 oil 1 2 10 3")[0], api.OK},
	}, api.Rate{})
	if i, e := award.CheckRates([]api.Rate{aRateVoid}); i != 0 || e != api.ErrNone {
		t.Errorf("CheckRates of a void alone: %d, error %d", i, e)
	}
}

// P6.1, F1: 100 rates are a valid list, and 101 are none.
func TestCheckRatesLimit(t *testing.T) {
	rateLists().checkMost(t, 100, manyRates)
}

// P6.1, F1: many lists, valid or not.
func TestCheckRatesModel(t *testing.T) {
	r := rand.New(rand.NewPCG(6, 1))
	seen := map[api.Errno]int{}
	for range 20000 {
		l := randomRates(r, r.IntN(10))
		for range 1 + r.IntN(2) {
			l = append(l, randomRate(r, l))
		}
		i, e := award.CheckRates(l)
		if j, g := modelCheckRates(l); i != j || e != g {
			t.Fatalf("CheckRates(%+v): %d, error %d, want %d, error %d", l, i, e, j, g)
		}
		seen[e]++
	}
	for _, e := range []api.Errno{api.OK, api.ErrTwice, api.ErrTime, api.ErrNone} {
		if seen[e] < 100 {
			t.Errorf("the error %d was there %d times only", e, seen[e])
		}
	}
}

// P6.1, F2: the chapter's examples, and what is around them.
func TestRateOf(t *testing.T) {
	l := sampleRates(t)
	for _, c := range []struct {
		goods       string
		hour, known int
		want        int // 0: none
	}{
		{"oil", 12, 40, 2}, {"oil", 12, 49, 2}, {"oil", 12, 50, 3}, {"oil", 12, 89, 3}, {"oil", 12, 90, 2}, {"wine", 12, 50, 1},
		{"oil", 9, 50, 2}, {"oil", 10, 50, 3}, {"oil", 0, 50, 2}, {"oil", -1, 50, 0}, {"oil", 12, -1, 0}, {"wine", -1, 0, 0}, {"wine", 0, 0, 1},
		{"", 12, 50, 1}, {"all", 12, 50, 1}, {"OIL", 12, 50, 1}, {"oil ", 12, 50, 1}, {"oi", 12, 50, 1}, {"oils", 12, 50, 1}, {"\xff", 12, 50, 1},
		{"oil", 1000000, 50, 3}, {"oil", 1000001, 50, 3}, {"oil", math.MaxInt, math.MaxInt, 2}, {"oil", math.MinInt, math.MaxInt, 0}, {"oil", math.MaxInt, math.MinInt, 0},
	} {
		x, e := award.RateOf(l, c.goods, c.hour, c.known)
		if c.want == 0 {
			if e != api.ErrRate || x != (api.Rate{}) {
				t.Errorf("RateOf %q at %d, known at %d: %+v, error %d", c.goods, c.hour, c.known, x, e)
			}
		} else if e != api.OK || x != l[c.want-1] {
			t.Errorf("RateOf %q at %d, known at %d: %+v, error %d, want %d", c.goods, c.hour, c.known, x, e, c.want)
		}
	}
}

// P6.1, F2: which one of several rates is in force.
func TestRateOfSeveral(t *testing.T) {
	for _, c := range []struct {
		what  string
		lines []string
		want  int
	}{
		{"none", nil, 0},
		{"one for other goods", []string{"1 0 rate 0 wine 0 1 0 0"}, 0},
		{"one that is later", []string{"1 0 rate 13 oil 0 1 0 0"}, 0},
		{"one from this hour on", []string{"1 0 rate 12 oil 0 1 0 0"}, 1},
		{"the greatest From, listed first", []string{"1 0 rate 5 oil 0 1 0 0", "2 0 rate 4 oil 0 1 0 0"}, 1},
		{"the greatest From, listed last", []string{"1 0 rate 4 oil 0 1 0 0", "2 0 rate 5 oil 0 1 0 0"}, 2},
		{"the last one of one From", []string{"2 0 rate 5 oil 0 1 0 0", "1 0 rate 5 oil 0 1 0 0"}, 1},
		{"the last one of one From, whatever its Id", []string{"1 0 rate 5 oil 0 1 0 0", "2 0 rate 5 oil 0 1 0 0"}, 2},
		{"these goods before all goods, listed first", []string{"1 0 rate 0 oil 0 1 0 0", "2 0 rate 12 all 0 1 0 0"}, 1},
		{"these goods before all goods, listed last", []string{"1 0 rate 12 all 0 1 0 0", "2 0 rate 0 oil 0 1 0 0"}, 2},
		{"all goods until these begin", []string{"1 0 rate 3 all 0 1 0 0", "2 0 rate 13 oil 0 1 0 0"}, 1},
		{"all goods if these are void", []string{"1 0 rate 3 all 0 1 0 0", "2 0 rate 3 oil 0 1 0 0", "3 0 void 2"}, 1},
		{"the earlier one of all goods if the later one is void", []string{"1 0 rate 3 all 0 1 0 0", "2 0 rate 4 all 0 1 0 0", "3 0 void 2"}, 1},
		{"a void that is known later", []string{"1 0 rate 3 oil 0 1 0 0", "2 41 void 1"}, 1},
		{"a void that is known now", []string{"1 0 rate 3 oil 0 1 0 0", "2 40 void 1"}, 0},
		{"one that is known later", []string{"1 0 rate 3 oil 0 1 0 0", "2 41 rate 4 oil 0 1 0 0"}, 1},
		{"the last one of one From for all goods", []string{"2 0 rate 5 all 0 1 0 0", "1 0 rate 5 all 0 1 0 0"}, 1},
	} {
		x, e := award.RateOf(rates(t, c.lines...), "oil", 12, 40)
		if x.Id != c.want || (e == api.OK) != (c.want != 0) || e != api.OK && e != api.ErrRate {
			t.Errorf("%s: %d, error %d, want %d", c.what, x.Id, e, c.want)
		}
	}
}

// P6.1, F2, and P6.5: many lists, and what is known later.
func TestRateOfModel(t *testing.T) {
	r := rand.New(rand.NewPCG(6, 2))
	for range 3000 {
		l := randomRates(r, r.IntN(24))
		goods, known := randomGoods(r), r.IntN(20)-1
		earlier := slices.DeleteFunc(slices.Clone(l), func(x api.Rate) bool { return x.Known > known })
		for hour := -1; hour < 14; hour++ {
			want, g := modelRateOf(l, goods, hour, known)
			x, e := award.RateOf(l, goods, hour, known)
			if x != want || e != g {
				t.Fatalf("RateOf(%+v, %q, %d, %d): %+v, error %d, want %+v", l, goods, hour, known, x, e, want)
			}
			if y, h := award.RateOf(earlier, goods, hour, known); y != x || h != e {
				t.Fatalf("RateOf(%+v, %q, %d, %d) depends on what is known later", l, goods, hour, known)
			}
		}
		same(t, "Turns without what is known later", award.Turns(earlier, goods, known), award.Turns(l, goods, known))
	}
}

// P6.1, F3: the chapter's examples, and what is around them.
func TestTurns(t *testing.T) {
	l := sampleRates(t)
	late := rates(t, "1 0 rate 5 oil 0 1 0 0", "2 0 rate 5 oil 0 1 0 0", "3 0 rate 7 all 0 1 0 0", "4 0 rate 1000000 oil 0 1 0 0", "5 0 rate 3 all 0 1 0 0", "6 1 void 2", "7 2 void 4")
	for _, c := range []struct {
		l     []api.Rate
		goods string
		known int
		want  []int
	}{
		{l, "oil", 50, []int{0, 10}}, {l, "oil", 90, []int{0}}, {l, "wine", 50, []int{0}}, {l, "oil", 49, []int{0}}, {l, "oil", -1, nil}, {l, "", 50, []int{0}}, {l, "no name", 50, []int{0}},
		{late, "oil", 0, []int{3, 5, 1000000}}, {late, "oil", 1, []int{3, 5, 1000000}}, {late, "oil", 2, []int{3, 5}}, {late, "wine", 0, []int{3, 7}}, {late, "oil", -1, nil},
		{nil, "oil", 0, nil}, {late, "oil", math.MaxInt, []int{3, 5}}, {late, "oil", math.MinInt, nil},
		{manyRates(101), "oil", 99, nil}, {[]api.Rate{aRate, aRate}, "oil", 99, nil},
	} {
		same(t, "Turns", award.Turns(c.l, c.goods, c.known), c.want)
	}
}

// P6.1, F3, and P6.4: at the turns the rate in force is another one than before, and between them it stays.
func TestTurnsModel(t *testing.T) {
	r := rand.New(rand.NewPCG(6, 3))
	for range 3000 {
		l := randomRates(r, r.IntN(24))
		goods, known := randomGoods(r), r.IntN(20)-1
		var want []int
		last := api.Rate{}
		for hour := range 20 {
			x, _ := modelRateOf(l, goods, hour, known)
			if x.Id != last.Id {
				want = append(want, hour)
			}
			last = x
		}
		same(t, "Turns", award.Turns(l, goods, known), want)
	}
}

// P6.1, F3: the chapter's examples, and what is around them.
func TestTouched(t *testing.T) {
	for _, c := range []struct {
		what        string
		lines       []string
		goods       string
		x           string
		from, until int // -1: no hour
	}{
		{"the example", []string{"1 0 rate 0 all 1 4 20 5", "2 0 rate 0 oil 1 3 10 3"}, "oil", "3 50 rate 10 oil 1 2 10 3", 10, 1000000},
		{"these goods go before all goods", []string{"1 0 rate 0 all 1 4 20 5", "2 0 rate 0 oil 1 3 10 3"}, "oil", "3 50 rate 0 all 1 2 0 0", -1, -1},
		{"other goods", []string{"1 0 rate 0 all 1 4 20 5", "2 0 rate 0 oil 1 3 10 3"}, "wine", "3 50 rate 10 oil 1 2 10 3", -1, -1},
		{"other goods, and all", []string{"1 0 rate 0 all 1 4 20 5", "2 0 rate 0 oil 1 3 10 3"}, "wine", "3 50 rate 0 all 1 2 0 0", 0, 1000000},
		{"the first one", nil, "oil", "3 50 rate 10 oil 1 2 10 3", 10, 1000000},
		{"the last hour", nil, "oil", "3 50 rate 1000000 oil 1 2 10 3", 1000000, 1000000},
		{"until the next one", []string{"1 0 rate 20 oil 0 1 0 0"}, "oil", "3 50 rate 10 oil 1 2 10 3", 10, 19},
		{"until the next one for these goods", []string{"1 0 rate 20 oil 0 1 0 0", "2 0 rate 15 all 0 1 0 0"}, "oil", "3 50 rate 10 oil 1 2 10 3", 10, 19},
		{"all goods until these begin", []string{"1 0 rate 20 oil 0 1 0 0"}, "oil", "3 50 rate 10 all 1 2 10 3", 10, 19},
		{"from one hour on, like another one", []string{"1 0 rate 10 oil 0 1 0 0", "2 0 rate 20 oil 0 1 0 0"}, "oil", "3 0 rate 10 oil 0 1 0 0", 10, 19},
		{"one hour", []string{"1 0 rate 10 oil 0 1 0 0", "2 0 rate 11 oil 0 1 0 0"}, "oil", "3 0 rate 10 oil 0 1 0 0", 10, 10},
		{"a void", []string{"1 0 rate 10 oil 0 1 0 0", "2 0 rate 20 oil 0 1 0 0"}, "oil", "3 0 void 1", 10, 19},
		{"a void of the last one", []string{"1 0 rate 10 oil 0 1 0 0", "2 0 rate 20 oil 0 1 0 0"}, "oil", "3 0 void 2", 20, 1000000},
		{"a void of other goods", []string{"1 0 rate 10 oil 0 1 0 0", "2 0 rate 20 wine 0 1 0 0"}, "oil", "3 0 void 2", -1, -1},
		{"a void of one that is never in force", []string{"1 0 rate 10 oil 0 1 0 0", "2 0 rate 10 oil 0 1 0 0"}, "oil", "3 0 void 1", -1, -1},
		{"a void of one that is in force twice", []string{"1 0 rate 0 all 0 1 0 0", "2 0 rate 5 oil 0 1 0 0", "3 0 rate 9 oil 0 1 0 0", "4 0 void 2"}, "oil", "5 0 void 1", 0, 8},
		{"two parts", []string{"1 0 rate 5 all 0 1 0 0", "2 0 rate 9 all 0 1 0 0"}, "oil", "3 0 rate 2 oil 0 1 0 0", 2, 1000000},
		{"no name", []string{"1 0 rate 5 all 0 1 0 0"}, "no name", "3 0 rate 2 all 0 1 0 0", 2, 4},
		{"all goods", []string{"1 0 rate 5 all 0 1 0 0"}, "", "3 0 rate 7 all 0 1 0 0", 7, 1000000},
		{"all goods by a rate for others", []string{"1 0 rate 5 all 0 1 0 0"}, "", "3 0 rate 7 oil 0 1 0 0", -1, -1},
	} {
		from, until, ok, e := award.Touched(rates(t, c.lines...), readRates(t, c.x)[0], c.goods)
		want := c.from >= 0
		if !want {
			c.from, c.until = 0, 0
		}
		if from != c.from || until != c.until || ok != want || e != api.OK {
			t.Errorf("%s: %d, %d, %v, error %d, want %d, %d", c.what, from, until, ok, e, c.from, c.until)
		}
	}
}

// P6.1, F3, and P6.4: a record more changes the rate in force at both ends of what is touched, not outside of it, and
// not before its From.
func TestTouchedModel(t *testing.T) {
	r := rand.New(rand.NewPCG(6, 4))
	touched := 0
	for range 4000 {
		l := randomRates(r, r.IntN(24))
		x := randomRate(r, l)
		goods := randomGoods(r)
		longer, g := award.AppendRate(l, x)
		from, until, ok, e := award.Touched(l, x, goods)
		if e != g || e != api.OK && (from != 0 || until != 0 || ok) {
			t.Fatalf("Touched: %d, %d, %v, error %d, want %d", from, until, ok, e, g)
		}
		if e != api.OK {
			continue
		}
		low, high, is := 0, 0, false
		for hour := range 20 {
			a, _ := modelRateOf(l, goods, hour, x.Known)
			b, _ := modelRateOf(longer, goods, hour, x.Known)
			if a.Id == b.Id {
				continue
			}
			if x.Of == 0 && hour < x.From {
				t.Fatalf("%+v changes the rate of the hour %d", x, hour)
			}
			if !is {
				low, is = hour, true
			}
			high = hour
		}
		if high == 19 {
			// Behind all hours from which rates are, nothing changes any more.
			high = 1000000
		}
		if from != low || until != high || ok != is {
			t.Fatalf("Touched(%+v, %+v, %q): %d, %d, %v, want %d, %d, %v", l, x, goods, from, until, ok, low, high, is)
		}
		if ok {
			touched++
		}
	}
	if touched < 300 {
		t.Errorf("only %d records touched something", touched)
	}
}

// P6.1, F3: the errors of Touched are those of AppendRate.
func TestTouchedErrors(t *testing.T) {
	for want, c := range map[api.Errno]struct {
		l []api.Rate
		x api.Rate
	}{
		api.ErrArg:   {nil, api.Rate{}},
		api.ErrLimit: {manyRates(100), aRateVoid},
		api.ErrTwice: {sampleRates(t), readRates(t, "1 90 void 77")[0]},
		api.ErrTime:  {sampleRates(t), readRates(t, "5 89 void 77")[0]},
		api.ErrNone:  {sampleRates(t), readRates(t, "5 90 void 4")[0]},
	} {
		for _, l := range [][]api.Rate{c.l, append(slices.Clone(c.l), c.x)} {
			if from, until, ok, e := award.Touched(l, c.x, "oil"); from != 0 || until != 0 || ok || e != want {
				t.Errorf("Touched: %d, %d, %v, error %d, want %d", from, until, ok, e, want)
			}
		}
	}
}
