package purse_test

import (
	"math"
	"math/rand/v2"
	"slices"
	"testing"

	"lagan/api"
	"lagan/purse"
)

// P7.1, G6: each number of dues, at its ends and beyond them, their order, and how many there are.
func TestCheckDues(t *testing.T) {
	check := func(want api.Errno, d ...api.Due) {
		t.Helper()
		if e := purse.CheckDues(d); e != want {
			t.Errorf("%+v: error %d, want %d", d, e, want)
		}
	}
	check(api.OK)
	check(api.OK, due(10, 0, 0), due(10, 40, 1000000000), due(11, 0, 5), due(10000007, 40, 5))
	for _, f := range []struct {
		of        func(x *api.Due) *int
		low, high int
	}{
		{func(x *api.Due) *int { return &x.Parcel }, 10, 10000007},
		{func(x *api.Due) *int { return &x.Party }, 0, 40},
		{func(x *api.Due) *int { return &x.Amount }, 0, 1000000000},
	} {
		for n, want := range map[int]api.Errno{
			f.low: api.OK, f.high: api.OK, f.low - 1: api.ErrArg, f.high + 1: api.ErrArg, math.MinInt: api.ErrArg, math.MaxInt: api.ErrArg,
		} {
			x := due(60, 7, 5)
			*f.of(&x) = n
			check(want, x)
		}
	}
	check(api.OK, due(10, 7, 5), due(10, 8, 5))
	check(api.OK, due(10, 8, 5), due(11, 7, 5))
	check(api.ErrArg, due(10, 7, 5), due(10, 7, 5))
	check(api.ErrArg, due(10, 7, 5), due(10, 7, 6))
	check(api.ErrArg, due(10, 8, 5), due(10, 7, 5))
	check(api.ErrArg, due(11, 7, 5), due(10, 8, 5))
	check(api.ErrArg, due(10, 7, 5), due(12, 7, 5), due(11, 7, 5))
	check(api.ErrArg, due(10, 7, 5), due(11, 41, 5), due(12, 7, 5))
	check(api.OK, manyDues(400)...)
	check(api.ErrLimit, manyDues(401)...)
	check(api.ErrLimit, make([]api.Due, 401)...)
	check(api.ErrArg, make([]api.Due, 400)...)
}

// manyDues returns dues of 1 for so many parcels.
func manyDues(count int) []api.Due {
	var d []api.Due
	for i := range count {
		d = append(d, due(10+i/2, i%2, 1))
	}
	return d
}

// P7.1, G6: each number of causes, at its ends and beyond them, their order, and how many there are.
func TestCheckCauses(t *testing.T) {
	check := func(want api.Errno, c ...api.Cause) {
		t.Helper()
		if e := purse.CheckCauses(c); e != want {
			t.Errorf("%+v: error %d, want %d", c, e, want)
		}
	}
	check(api.OK)
	check(api.OK, cause(10, 1, 0), cause(11, 1000000, 1000000), cause(10000007, 1, 0))
	for _, f := range []struct {
		of        func(x *api.Cause) *int
		low, high int
	}{
		{func(x *api.Cause) *int { return &x.Parcel }, 10, 10000007},
		{func(x *api.Cause) *int { return &x.Reason }, 1, 1000000},
		{func(x *api.Cause) *int { return &x.Known }, 0, 1000000},
	} {
		for n, want := range map[int]api.Errno{
			f.low: api.OK, f.high: api.OK, f.low - 1: api.ErrArg, f.high + 1: api.ErrArg, math.MinInt: api.ErrArg, math.MaxInt: api.ErrArg,
		} {
			x := cause(60, 7, 5)
			*f.of(&x) = n
			check(want, x)
		}
	}
	check(api.ErrArg, cause(10, 7, 5), cause(10, 7, 5))
	check(api.ErrArg, cause(10, 7, 5), cause(10, 8, 6))
	check(api.ErrArg, cause(11, 7, 5), cause(10, 8, 6))
	check(api.OK, cause(10, 8, 6), cause(11, 7, 5))
	check(api.ErrArg, cause(10, 8, 6), cause(12, 7, 5), cause(11, 9, 7))
	check(api.ErrArg, cause(10, 8, 6), cause(11, 0, 5), cause(12, 9, 7))
	var many []api.Cause
	for i := range 401 {
		many = append(many, cause(10+i, 1, 1))
	}
	check(api.OK, many[:400]...)
	check(api.ErrLimit, many...)
	check(api.ErrLimit, make([]api.Cause, 401)...)
	check(api.ErrArg, make([]api.Cause, 400)...)
}

// checkDues checks Open, Over, Settled and Covered of a book with dues.
func checkDues(t *testing.T, l []api.Posting, d, open, over []api.Due, covered []int) {
	t.Helper()
	got, e := purse.Open(l, d)
	same(t, "Open", got, open)
	got, g := purse.Over(l, d)
	same(t, "Over", got, over)
	settled, h := purse.Settled(l, d)
	if settled != (len(open) == 0 && len(over) == 0) {
		t.Errorf("Settled(%+v, %+v): %v", l, d, settled)
	}
	parcels, f := purse.Covered(l, d)
	same(t, "Covered", parcels, covered)
	if e != api.OK || f != api.OK || g != api.OK || h != api.OK {
		t.Errorf("errors %d, %d, %d, %d", e, g, h, f)
	}
}

// P7.1, G7 and G9: the chapter's examples, and edges.
func TestOpenOver(t *testing.T) {
	l := sample(t)
	checkDues(t, l, []api.Due{due(10, 7, 300), due(10, 9, 500)}, []api.Due{due(10, 7, 50), due(10, 9, 500)}, []api.Due{due(10, 8, 100)}, nil)
	checkDues(t, l, []api.Due{due(10, 7, 250), due(10, 8, 100)}, nil, nil, nil)
	checkDues(t, l, []api.Due{due(10, 7, 900), due(10, 9, 101)}, []api.Due{due(10, 7, 650), due(10, 9, 101)}, []api.Due{due(10, 8, 100)}, []int{10})
	checkDues(t, l, []api.Due{due(10, 7, 900), due(10, 9, 100)}, []api.Due{due(10, 7, 650), due(10, 9, 100)}, []api.Due{due(10, 8, 100)}, nil)
	checkDues(t, l, nil, nil, []api.Due{due(10, 7, 250), due(10, 8, 100)}, nil)
	checkDues(t, nil, nil, nil, nil, nil)
	// A due of 0 is none, and one for what was not sold cannot be paid.
	checkDues(t, l, []api.Due{due(10, 7, 0), due(10, 8, 100), due(10, 9, 0), due(11, 7, 0)}, nil, []api.Due{due(10, 7, 250)}, nil)
	checkDues(t, l, []api.Due{due(10, 7, 250), due(10, 8, 100), due(20, 7, 1), due(21, 7, 0)}, []api.Due{due(20, 7, 1)}, nil, []int{20})
	checkDues(t, nil, []api.Due{due(10, 0, 1), due(11, 0, 0)}, []api.Due{due(10, 0, 1)}, nil, []int{10})
	// Those who have given all back have nothing, and the crown is one of those who have.
	l = sample(t, "5 12 back 7 10 250 9 12", "6 12 sale 9000 9 3 4", "7 12 pay 0 9000 9 3 4", "8 12 sale 30 9 3 4", "9 12 pay 8 30 5 3 4", "10 12 pay 0 30 4 3 4")
	checkDues(t, l, nil, nil, []api.Due{due(10, 8, 100), due(30, 0, 4), due(30, 8, 5), due(9000, 0, 9)}, nil)
	checkDues(t, l, []api.Due{due(10, 8, 101), due(30, 0, 3), due(30, 8, 6), due(9000, 0, 9)}, []api.Due{due(10, 8, 1), due(30, 8, 1)}, []api.Due{due(30, 0, 1)}, nil)
	// All dues together are more than a number of 32 bits.
	var most []api.Due
	for party := range 41 {
		most = append(most, due(10, party, 1000000000))
	}
	if parcels, e := purse.Covered(l, most); !slices.Equal(parcels, []int{10}) || e != api.OK {
		t.Errorf("Covered of the greatest amounts: %v, error %d", parcels, e)
	}
}

// P7.1, G7 and G9, and P7.6: many books and dues.
func TestDuesModel(t *testing.T) {
	r := rand.New(rand.NewPCG(7, 5))
	settled := 0
	for range 20000 {
		l := randomBook(r, r.IntN(60))
		d := randomDues(r, l)
		if r.IntN(4) == 0 {
			d = nil
			for _, parcel := range purse.Parcels(l) {
				d = append(d, purse.Holders(l, parcel)...)
			}
			settled++
		}
		checkDues(t, l, d, modelOpen(l, d), modelOver(l, d), modelCovered(l, d))
	}
	if settled < 1000 {
		t.Errorf("only %d times settled", settled)
	}
}
