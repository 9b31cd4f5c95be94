package claim_test

import (
	"math"
	"math/rand/v2"
	"slices"
	"testing"

	"lagan/api"
	"lagan/claim"
)

var (
	aPaid     = api.Deed{Id: 9, Known: 8, Hour: 7, Kind: 1, Loss: 6, Pack: 5, From: 4, To: 3, Share: api.Frac{Num: 1, Den: 2}}
	aSold     = api.Deed{Id: 9, Known: 8, Hour: 7, Kind: 2, Loss: 6, Pack: 5, From: 4, To: 3, Share: api.Frac{Num: 1, Den: 2}}
	aLeft     = api.Deed{Id: 9, Known: 8, Hour: 7, Kind: 3, Loss: 6, Pack: 5, From: 4, To: 3}
	aClaim    = api.Deed{Id: 9, Known: 8, Hour: 7, Kind: 4, Loss: 6, Pack: 5, From: 4}
	aWithdraw = api.Deed{Id: 9, Known: 8, Hour: 7, Kind: 5, Of: 4}
	aVoid     = api.Deed{Id: 9, Known: 8, Kind: 6, Of: 4}
)

func kinds() []api.Deed { return []api.Deed{aPaid, aSold, aLeft, aClaim, aWithdraw, aVoid} }

// field is a number of a deed: in which kinds it is used, and from where to where; elsewhere it is 0.
type field struct {
	name      string
	of        func(x *api.Deed) *int
	low, high [6]int
}

func all(n int) [6]int { return [6]int{n, n, n, n, n, n} }

func numbers() []field {
	return []field{
		{"Id", func(x *api.Deed) *int { return &x.Id }, all(1), all(1000000)},
		{"Known", func(x *api.Deed) *int { return &x.Known }, all(0), all(1000000)},
		{"Hour", func(x *api.Deed) *int { return &x.Hour }, all(0), [6]int{1000000, 1000000, 1000000, 1000000, 1000000, 0}},
		{"Loss", func(x *api.Deed) *int { return &x.Loss }, [6]int{1, 1, 1, 1, 0, 0}, [6]int{20, 20, 20, 20, 0, 0}},
		{"Pack", func(x *api.Deed) *int { return &x.Pack }, [6]int{1, 1, 1, 1, 0, 0}, [6]int{200, 200, 200, 200, 0, 0}},
		{"From", func(x *api.Deed) *int { return &x.From }, [6]int{1, 1, 1, 1, 0, 0}, [6]int{40, 40, 40, 40, 0, 0}},
		{"To", func(x *api.Deed) *int { return &x.To }, [6]int{1, 1, 0, 0, 0, 0}, [6]int{40, 40, 40, 0, 0, 0}},
		{"Of", func(x *api.Deed) *int { return &x.Of }, [6]int{0, 0, 0, 0, 1, 1}, [6]int{0, 0, 0, 0, 1000000, 1000000}},
	}
}

// P5.1, E4: each number of each kind, at its ends and beyond them.
func TestCheckDeed(t *testing.T) {
	check := func(x api.Deed, want api.Errno) {
		t.Helper()
		if e := claim.CheckDeed(x); e != want {
			t.Errorf("%+v: error %d, want %d", x, e, want)
		}
	}
	for i, x := range kinds() {
		check(x, api.OK)
		for _, f := range numbers() {
			for n, want := range map[int]api.Errno{
				f.low[i]: api.OK, f.high[i]: api.OK, f.low[i] - 1: api.ErrArg, f.high[i] + 1: api.ErrArg,
				math.MinInt: api.ErrArg, math.MaxInt: api.ErrArg,
			} {
				y := x
				*f.of(&y) = n
				check(y, want)
			}
		}
		for _, kind := range []uint8{0, 7, 8, 255} {
			y := x
			y.Kind = kind
			check(y, api.ErrArg)
		}
	}
	for _, x := range kinds()[:3] {
		x.To = x.From
		check(x, api.ErrArg)
	}
	check(api.Deed{}, api.ErrArg)
	check(api.Deed{Id: 1}, api.ErrArg)
}

// P5.1, E4: shares of deeds that have one, and of those that have none.
func TestCheckDeedShare(t *testing.T) {
	for i, x := range kinds() {
		parts := i < 2
		for a, good := range map[api.Frac]bool{
			frac(1, 1): parts, frac(1, 1000000): parts, frac(999999, 1000000): parts, frac(2, 3): parts, {}: !parts,
			frac(0, 1): false, frac(-1, 2): false, frac(3, 2): false, frac(2, 1): false, frac(1000000, 999999): false, frac(1, -2): false, frac(-1, -2): false,
		} {
			x.Share = a
			if e := claim.CheckDeed(x); (e == api.OK) != good || e != api.OK && e != api.ErrArg {
				t.Errorf("%+v: error %d", x, e)
			}
		}
		for _, a := range invalid()[1:] {
			x.Share = a
			if e := claim.CheckDeed(x); e != api.ErrArg {
				t.Errorf("%+v: error %d", x, e)
			}
		}
	}
}

// manyDeeds returns so many deeds, which are a register if they are not too many.
func manyDeeds(count int) []api.Deed {
	var l []api.Deed
	for i := range count {
		x := aClaim
		x.Id = 1000 - i
		l = append(l, x)
	}
	return l
}

// P5.1, E4: each error of Check and of Append, and their order.
func TestCheck(t *testing.T) {
	l := sample(t, "8 50 void 3", "9 50 0 withdraw 4", "10 50 1 withdraw 4", "11 50 void 9")
	if i, e := claim.Check(l); i != 0 || e != api.OK {
		t.Errorf("Check: %d, error %d", i, e)
	}
	late := aPaid
	late.Known, late.Pack = 49, 0
	for _, c := range []struct {
		what string
		x    api.Deed
		want api.Errno
	}{
		{"no deed", api.Deed{}, api.ErrArg},
		{"no deed, an Id twice", api.Deed{Id: 1}, api.ErrArg},
		{"no deed, early", late, api.ErrArg},
		{"an Id twice", read(t, "1 50 2 claim 1 3 7")[0], api.ErrTwice},
		{"an Id twice, early", read(t, "1 49 2 claim 1 3 7")[0], api.ErrTwice},
		{"the Id of a void, early", read(t, "8 49 void 77")[0], api.ErrTwice},
		{"early", read(t, "20 49 2 claim 1 3 7")[0], api.ErrTime},
		{"early, of nothing", read(t, "20 49 void 77")[0], api.ErrTime},
		{"early, of a void deed", read(t, "20 49 void 3")[0], api.ErrTime},
		{"a withdrawal of nothing", read(t, "20 50 2 withdraw 77")[0], api.ErrNone},
		{"a withdrawal of itself", read(t, "20 50 2 withdraw 20")[0], api.ErrNone},
		{"a withdrawal of what was paid", read(t, "20 50 2 withdraw 1")[0], api.ErrNone},
		{"a withdrawal of what was sold", read(t, "20 50 2 withdraw 3")[0], api.ErrNone},
		{"a withdrawal of what was left", read(t, "20 50 2 withdraw 7")[0], api.ErrNone},
		{"a withdrawal of a withdrawal", read(t, "20 50 2 withdraw 6")[0], api.ErrNone},
		{"a withdrawal of a void", read(t, "20 50 2 withdraw 8")[0], api.ErrNone},
		{"a withdrawal of a claim", read(t, "20 50 2 withdraw 5")[0], api.OK},
		{"a void of nothing", read(t, "20 50 void 77")[0], api.ErrNone},
		{"a void of itself", read(t, "20 50 void 20")[0], api.ErrNone},
		{"a void of a void", read(t, "20 50 void 8")[0], api.ErrNone},
		{"a void twice", read(t, "20 50 void 3")[0], api.ErrTwice},
		{"a void of a void withdrawal", read(t, "20 50 void 9")[0], api.ErrTwice},
		{"a void of what was paid", read(t, "20 50 void 1")[0], api.OK},
		{"a void of what was left", read(t, "20 50 void 7")[0], api.OK},
		{"a void of a claim that was withdrawn", read(t, "20 50 void 4")[0], api.OK},
		{"a void of a withdrawal", read(t, "20 50 void 6")[0], api.OK},
		{"a deed of any hour", read(t, "20 50 0 sold 20 200 40 1 1 1")[0], api.OK},
		{"known later", read(t, "12 1000000 1000000 claim 1 3 7")[0], api.OK},
	} {
		longer := append(slices.Clone(l), c.x)
		i, e := claim.Check(longer)
		if e != c.want || i != len(l) && e != api.OK || i != 0 && e == api.OK {
			t.Errorf("%s: Check: %d, error %d, want %d", c.what, i, e, c.want)
		}
		m, e := claim.Append(l, c.x)
		if e != c.want {
			t.Errorf("%s: Append: error %d, want %d", c.what, e, c.want)
		}
		if e == api.OK {
			same(t, c.what, m, longer)
		} else if len(m) > 0 {
			t.Errorf("%s: Append: %v", c.what, m)
		}
		if e != api.OK {
			if m, g := claim.Append(longer, read(t, "1 0 void 77")[0]); g != e || len(m) > 0 {
				t.Errorf("%s: Append behind it: %v, error %d, want %d", c.what, m, g, e)
			}
			if k, g := claim.Check(append(longer, api.Deed{})); k != len(l) || g != e {
				t.Errorf("%s: Check with more: %d, error %d", c.what, k, g)
			}
		}
	}
}

// P5.1, E4: 300 deeds are a register, and 301 are none.
func TestCheckLimit(t *testing.T) {
	if i, e := claim.Check(manyDeeds(300)); i != 0 || e != api.OK {
		t.Errorf("Check of 300: %d, error %d", i, e)
	}
	if i, e := claim.Check(manyDeeds(400)); i != 300 || e != api.ErrLimit {
		t.Errorf("Check of 400: %d, error %d", i, e)
	}
	if l, e := claim.Append(manyDeeds(299), aPaid); len(l) != 300 || e != api.OK {
		t.Errorf("Append to 299: %d, error %d", len(l), e)
	}
	if l, e := claim.Append(manyDeeds(300), api.Deed{}); len(l) != 0 || e != api.ErrLimit {
		t.Errorf("Append to 300: %d, error %d", len(l), e)
	}
	spoilt := manyDeeds(301)
	spoilt[299] = spoilt[0]
	if i, e := claim.Check(spoilt); i != 299 || e != api.ErrTwice {
		t.Errorf("Check of 301, with an Id twice: %d, error %d", i, e)
	}
}

// P5.1, E4: what counts, as known at an hour, in the order of the Hours.
func TestCounting(t *testing.T) {
	l := register(t,
		"5 0 9 claim 1 1 1",
		"4 0 3 claim 1 1 2",
		"3 2 9 paid 2 9 1 2 1 2",
		"2 2 3 withdraw 5",
		"1 4 void 5",
		"9 5 void 2",
		"8 6 3 left 1 1 1 0",
		"7 6 0 withdraw 5",
	)
	for known, want := range map[int][]int{
		math.MinInt: nil, -1: nil, 0: {4, 5}, 1: {4, 5}, 2: {4, 2, 5, 3}, 3: {4, 2, 5, 3}, 4: {4, 2, 3}, 5: {4, 3}, 6: {7, 4, 8, 3}, math.MaxInt: {7, 4, 8, 3},
	} {
		var ids []int
		for _, x := range claim.Counting(l, known) {
			ids = append(ids, x.Id)
			if !slices.Contains(l, x) {
				t.Errorf("Counting at %d: %+v", known, x)
			}
		}
		same(t, "Counting", ids, want)
	}
	for _, bad := range [][]api.Deed{{aVoid}, manyDeeds(301), append(slices.Clone(l), l[0])} {
		if m := claim.Counting(bad, 9); len(m) > 0 {
			t.Errorf("Counting of no register: %v", m)
		}
	}
}

// P5.1, E4: many registers.
func TestCountingModel(t *testing.T) {
	r := rand.New(rand.NewPCG(5, 4))
	for range 2000 {
		a := randomAsked(r)
		var want []api.Deed
		for hour := 0; hour <= a.lastHour(); hour++ {
			for _, x := range a.l {
				if x.Hour == hour && a.counts(x) {
					want = append(want, x)
				}
			}
		}
		same(t, "Counting", claim.Counting(a.l, a.known), want)
	}
}
