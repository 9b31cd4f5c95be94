package award_test

import (
	"math"
	"math/rand/v2"
	"slices"
	"testing"

	"lagan/api"
	"lagan/award"
)

var (
	aSale     = api.Sale{Id: 9, Known: 8, Hour: 7, Parcel: 60, Price: 5, Carter: 4, Keeper: 3, Since: 2}
	aSaleVoid = api.Sale{Id: 9, Known: 8, Of: 4}
)

// P6.1, F4: each number of a sale and of a void, at its ends and beyond them.
func TestCheckSale(t *testing.T) {
	check := func(x api.Sale, want api.Errno) {
		t.Helper()
		if e := award.CheckSale(x); e != want {
			t.Errorf("%+v: error %d, want %d", x, e, want)
		}
	}
	kept := aSale
	notKept := aSale
	notKept.Keeper, notKept.Since = 0, 0
	for _, f := range []struct {
		of        func(x *api.Sale) *int
		low, high [3]int // of a sale, of one without a keeper, of a void
	}{
		{func(x *api.Sale) *int { return &x.Id }, [3]int{1, 1, 1}, [3]int{1000000, 1000000, 1000000}},
		{func(x *api.Sale) *int { return &x.Known }, [3]int{7, 7, 0}, [3]int{1000000, 1000000, 1000000}},
		{func(x *api.Sale) *int { return &x.Hour }, [3]int{2, 0, 0}, [3]int{8, 8, 0}},
		{func(x *api.Sale) *int { return &x.Parcel }, [3]int{10, 10, 0}, [3]int{10000007, 10000007, 0}},
		{func(x *api.Sale) *int { return &x.Price }, [3]int{1, 1, 0}, [3]int{1000000000, 1000000000, 0}},
		{func(x *api.Sale) *int { return &x.Carter }, [3]int{0, 0, 0}, [3]int{40, 40, 0}},
		{func(x *api.Sale) *int { return &x.Since }, [3]int{0, 0, 0}, [3]int{7, 0, 0}},
		{func(x *api.Sale) *int { return &x.Of }, [3]int{0, 0, 1}, [3]int{0, 0, 1000000}},
	} {
		for i, x := range []api.Sale{kept, notKept, aSaleVoid} {
			check(x, api.OK)
			for n, want := range map[int]api.Errno{
				f.low[i]: api.OK, f.high[i]: api.OK, f.low[i] - 1: api.ErrArg, f.high[i] + 1: api.ErrArg,
				math.MinInt: api.ErrArg, math.MaxInt: api.ErrArg,
			} {
				y := x
				*f.of(&y) = n
				check(y, want)
			}
		}
	}
	for keeper, good := range map[int][3]bool{
		0: {false, true, true}, 1: {true, true, false}, 40: {true, true, false}, 41: {}, -1: {}, math.MinInt: {}, math.MaxInt: {},
	} {
		for i, x := range []api.Sale{kept, notKept, aSaleVoid} {
			x.Keeper = keeper
			if e := award.CheckSale(x); (e == api.OK) != good[i] || e != api.OK && e != api.ErrArg {
				t.Errorf("%+v: error %d", x, e)
			}
		}
	}
	check(api.Sale{}, api.ErrArg)
	check(api.Sale{Id: 1}, api.ErrArg)
	check(api.Sale{Id: 1, Parcel: 10, Price: 1}, api.OK)
	check(api.Sale{Id: 1, Known: 1000000, Hour: 1000000, Parcel: 10, Price: 1, Keeper: 1, Since: 1000000}, api.OK)
	check(api.Sale{Id: 9, Of: 9}, api.OK)
}

func saleLists() lists[api.Sale] {
	return lists[api.Sale]{award.CheckSales, award.AppendSale}
}

// manySales returns so many sales, which are a valid list if they are not too many.
func manySales(count int) []api.Sale {
	var l []api.Sale
	for i := range count {
		x := aSale
		x.Id, x.Parcel, x.Price = 1000-i, 5000-i, 1000000000
		l = append(l, x)
	}
	return l
}

// P6.1, F4: each error of CheckSales and of AppendSale, and their order.
func TestCheckSales(t *testing.T) {
	l := sampleSales(t, "3 80 void 1", "4 80 80 sale 10 5 0 0 0", "5 80 70 sale 30 5 0 0 0", "6 80 void 5")
	saleLists().checkBehind(t, l, []behind[api.Sale]{
		{"nothing", api.Sale{}, api.ErrArg},
		{"not formed, an Id twice", api.Sale{Id: 1}, api.ErrArg},
		{"not formed, early", api.Sale{Id: 9, Known: 1, Of: 1, Hour: 1}, api.ErrArg},
		{"an Id twice", readSales(t, "1 80 0 sale 20 5 0 0 0")[0], api.ErrTwice},
		{"an Id twice, early", readSales(t, "1 79 0 sale 20 5 0 0 0")[0], api.ErrTwice},
		{"the Id of a void, early, of nothing", readSales(t, "3 79 void 77")[0], api.ErrTwice},
		{"early", readSales(t, "20 79 0 sale 20 5 0 0 0")[0], api.ErrTime},
		{"early, of nothing", readSales(t, "20 79 void 77")[0], api.ErrTime},
		{"a void of nothing", readSales(t, "20 80 void 77")[0], api.ErrNone},
		{"a void of itself", readSales(t, "20 80 void 20")[0], api.ErrNone},
		{"a void of a void", readSales(t, "20 80 void 3")[0], api.ErrNone},
		{"a void twice", readSales(t, "20 80 void 1")[0], api.ErrTwice},
		{"a void", readSales(t, "20 80 void 2")[0], api.OK},
		{"a void of a sale behind a void one", readSales(t, "20 1000000 void 4")[0], api.OK},
		{"a parcel that was sold", readSales(t, "20 80 70 sale 20 5 0 0 0")[0], api.ErrSold},
		{"a parcel that was sold, and is known later", readSales(t, "20 1000000 70 sale 20 5 0 0 0")[0], api.ErrSold},
		{"a parcel that was sold, at an earlier hour", readSales(t, "20 80 0 sale 20 5 0 0 0")[0], api.ErrSold},
		{"a parcel that was sold again", readSales(t, "20 80 0 sale 10 5 0 0 0")[0], api.ErrSold},
		{"a parcel of which the sale is void", readSales(t, "20 80 0 sale 30 5 0 0 0")[0], api.OK},
		{"another parcel", readSales(t, "20 80 0 sale 21 5 0 0 0")[0], api.OK},
	}, api.Sale{})
	if i, e := award.CheckSales(sampleSales(t)); i != 0 || e != api.OK {
		t.Errorf("CheckSales of the example: %d, error %d", i, e)
	}
	if i, e := award.CheckSales(append(sampleSales(t), readSales(t, "3 80 70 sale 10 5 0 0 0")...)); i != 2 || e != api.ErrSold {
		t.Errorf("CheckSales of the example, and a sale more: %d, error %d", i, e)
	}
	// A void behind it does not help, though it is known at the same hour.
	if i, e := award.CheckSales(readSales(t, "1 5 5 sale 10 1 0 0 0", "2 5 5 sale 10 1 0 0 0", "3 5 void 1")); i != 1 || e != api.ErrSold {
		t.Errorf("CheckSales with a void behind: %d, error %d", i, e)
	}
	if i, e := award.CheckSales(readSales(t, "1 5 5 sale 10 1 0 0 0", "3 5 void 1", "2 5 5 sale 10 1 0 0 0")); i != 0 || e != api.OK {
		t.Errorf("CheckSales with a void between: %d, error %d", i, e)
	}
}

// P6.1, F4: 200 sales are a valid list, and 201 are none.
func TestCheckSalesLimit(t *testing.T) {
	saleLists().checkMost(t, 200, manySales)
}

// P6.1, F4: many lists, valid or not.
func TestCheckSalesModel(t *testing.T) {
	r := rand.New(rand.NewPCG(6, 5))
	seen := map[api.Errno]int{}
	for range 20000 {
		l := randomSales(r, r.IntN(12))
		for range 1 + r.IntN(2) {
			l = append(l, randomSale(r, l))
		}
		i, e := award.CheckSales(l)
		if j, g := modelCheckSales(l); i != j || e != g {
			t.Fatalf("CheckSales(%+v): %d, error %d, want %d, error %d", l, i, e, j, g)
		}
		seen[e]++
	}
	for _, e := range []api.Errno{api.OK, api.ErrTwice, api.ErrTime, api.ErrNone, api.ErrSold} {
		if seen[e] < 100 {
			t.Errorf("the error %d was there %d times only", e, seen[e])
		}
	}
}

// P6.1, F5: the chapter's examples, and what is around them.
func TestSaleOf(t *testing.T) {
	l := sampleSales(t, "3 80 void 1", "4 80 80 sale 10 5 0 0 0", "5 90 void 4")
	for _, c := range []struct {
		parcel, known int
		want          int // 0: none
	}{
		{20, 69, 0}, {20, 70, 2}, {10, 59, 0}, {10, 60, 1}, {10, 79, 1}, {10, 80, 4}, {10, 89, 4}, {10, 90, 0}, {20, math.MaxInt, 2}, {20, math.MinInt, 0},
		{0, 99, 0}, {30, 99, 0}, {-1, 99, 0}, {math.MaxInt, 99, 0}, {math.MinInt, 99, 0},
	} {
		x, e := award.SaleOf(l, c.parcel, c.known)
		if c.want == 0 {
			if e != api.ErrSold || x != (api.Sale{}) {
				t.Errorf("SaleOf %d, known at %d: %+v, error %d", c.parcel, c.known, x, e)
			}
		} else if e != api.OK || x != l[c.want-1] {
			t.Errorf("SaleOf %d, known at %d: %+v, error %d, want %d", c.parcel, c.known, x, e, c.want)
		}
	}
}

// P6.1, F5: which parcels are sold.
func TestSold(t *testing.T) {
	l := sales(t, "1 5 5 sale 30 1 0 0 0", "2 6 5 sale 10 1 0 0 0", "3 6 5 sale 10000007 1 0 0 0", "4 7 void 2", "5 8 8 sale 10 1 0 0 0", "6 8 8 sale 20 1 0 0 0")
	for known, want := range map[int][]int{
		4: nil, 5: {30}, 6: {10, 30, 10000007}, 7: {30, 10000007}, 8: {10, 20, 30, 10000007}, math.MinInt: nil, math.MaxInt: {10, 20, 30, 10000007},
	} {
		same(t, "Sold", award.Sold(l, known), want)
	}
	for _, bad := range [][]api.Sale{manySales(201), {aSale, aSale}, {aSaleVoid}} {
		if got := award.Sold(bad, 99); len(got) > 0 {
			t.Errorf("Sold of no list: %v", got)
		}
	}
	if got := award.Sold(nil, 99); len(got) > 0 {
		t.Errorf("Sold of nothing: %v", got)
	}
}

// P6.1, F5: the chapter's examples, each error, and their order.
func TestValue(t *testing.T) {
	l := sampleSales(t, "3 80 void 1")
	var many []int
	for i := range 201 {
		many = append(many, 10+i)
	}
	for _, c := range []struct {
		what    string
		parcels []int
		known   int
		value   int
		want    api.Errno
	}{
		{"the example", []int{20, 10}, 70, 112, api.OK},
		{"in another order", []int{10, 20}, 70, 112, api.OK},
		{"one", []int{20}, 70, 12, api.OK},
		{"none", nil, 70, 0, api.OK},
		{"none, early", nil, -1, 0, api.OK},
		{"one that is not known", []int{10, 20}, 69, 0, api.ErrSold},
		{"one that is void", []int{10, 20}, 80, 0, api.ErrSold},
		{"one that was never sold", []int{20, 30}, 70, 0, api.ErrSold},
		{"no parcel", []int{0}, 70, 0, api.ErrSold},
		{"no parcel, far away", []int{math.MinInt}, 70, 0, api.ErrSold},
		{"one twice", []int{10, 20, 10}, 70, 0, api.ErrTwice},
		{"one twice, and never sold", []int{30, 30}, 70, 0, api.ErrTwice},
		{"one that was never sold, and behind it one twice", []int{30, 20, 20}, 70, 0, api.ErrTwice},
		{"200 that were never sold", many[:200], 70, 0, api.ErrSold},
		{"200, one twice", append(many[:199:199], 10), 70, 0, api.ErrTwice},
		{"201", many, 70, 0, api.ErrLimit},
		{"201, one twice", append(many[:200:200], 10), 70, 0, api.ErrLimit},
	} {
		if n, e := award.Value(l, c.parcels, c.known); n != c.value || e != c.want {
			t.Errorf("%s: %d, error %d, want %d, error %d", c.what, n, e, c.value, c.want)
		}
	}
	all := manySales(200)
	if n, e := award.Value(all, award.Sold(all, 8), 8); n != 200000000000 || e != api.OK {
		t.Errorf("Value of the greatest prices: %d, error %d", n, e)
	}
}

// P6.1, F5, and P6.5, P6.6: many lists, what is known later, and the order of the parcels.
func TestSalesModel(t *testing.T) {
	r := rand.New(rand.NewPCG(6, 6))
	for range 5000 {
		l := randomSales(r, r.IntN(30))
		known := r.IntN(24) - 1
		earlier := slices.DeleteFunc(slices.Clone(l), func(x api.Sale) bool { return x.Known > known })
		var parcels []int
		value := 0
		for parcel := 0; parcel <= 70; parcel++ {
			var counts []api.Sale
			for _, x := range l {
				if x.Parcel == parcel && saleCounts(l, x, known) {
					counts = append(counts, x)
				}
			}
			if len(counts) > 1 {
				t.Fatalf("%+v: two counting sales of %d at %d", l, parcel, known)
			}
			want, g := api.Sale{}, api.ErrSold
			if len(counts) == 1 {
				want, g = counts[0], api.OK
				parcels = append(parcels, parcel)
				value += want.Price
			}
			x, e := award.SaleOf(l, parcel, known)
			y, h := award.SaleOf(earlier, parcel, known)
			if x != want || e != g || y != want || h != g {
				t.Fatalf("SaleOf(%+v, %d, %d): %+v, error %d; without what is known later %+v, error %d", l, parcel, known, x, e, y, h)
			}
		}
		same(t, "Sold", award.Sold(l, known), parcels)
		same(t, "Sold without what is known later", award.Sold(earlier, known), parcels)
		r.Shuffle(len(parcels), func(i, j int) { parcels[i], parcels[j] = parcels[j], parcels[i] })
		if n, e := award.Value(l, parcels, known); n != value || e != api.OK {
			t.Fatalf("Value(%+v, %v, %d): %d, error %d, want %d", l, parcels, known, n, e, value)
		}
	}
}
