package claim_test

import (
	"math"
	"math/big"
	"math/rand/v2"
	"testing"

	"lagan/api"
	"lagan/claim"
)

// invalid are fractions that are not valid, whatever is wrong.
func invalid() []api.Frac {
	return []api.Frac{
		{}, frac(1, 0), frac(0, 2), frac(0, -1), frac(1, -2), frac(2, 4), frac(-3, 6), frac(5, 5), frac(1, 1000001), frac(2, 1000001),
		frac(1000000000001, 1), frac(-1000000000001, 1), frac(1000000000000, 1000000), frac(math.MinInt, 1), frac(math.MaxInt, 1),
		frac(1, math.MinInt), frac(1, math.MaxInt), frac(math.MinInt, math.MinInt), frac(0, math.MinInt), frac(math.MinInt, 0),
	}
}

// edges are valid fractions at the ends of what is valid.
func edges() []api.Frac {
	return []api.Frac{
		frac(0, 1), frac(1, 1), frac(-1, 1), frac(1, 2), frac(-1, 2), frac(1000000000000, 1), frac(-1000000000000, 1), frac(999999999999, 1),
		frac(1, 1000000), frac(-1, 1000000), frac(999999999999, 1000000), frac(-999999999999, 1000000), frac(1, 999999), frac(999999, 1000000),
		frac(999999999999, 999998), frac(1000000, 999999), frac(-1000000, 999999), frac(1000000000000, 999999),
	}
}

// P5.1, E1: values in lowest terms, and the ends of what is taken and what is in range.
func TestNorm(t *testing.T) {
	for _, c := range []struct {
		num, den int
		want     api.Frac
		e        api.Errno
	}{
		{6, -8, frac(-3, 4), api.OK}, {6, 8, frac(3, 4), api.OK}, {-6, -8, frac(3, 4), api.OK}, {-6, 8, frac(-3, 4), api.OK},
		{0, 5, frac(0, 1), api.OK}, {0, -5, frac(0, 1), api.OK}, {0, 1000000000000000, frac(0, 1), api.OK}, {7, 7, frac(1, 1), api.OK},
		{7, -1, frac(-7, 1), api.OK}, {1, 1000000, frac(1, 1000000), api.OK}, {1, 1000001, api.Frac{}, api.ErrLimit},
		{3, 3000000, frac(1, 1000000), api.OK}, {3, 3000003, api.Frac{}, api.ErrLimit},
		{1000000000000, 1, frac(1000000000000, 1), api.OK}, {1000000000001, 1, api.Frac{}, api.ErrLimit}, {-1000000000001, 1, api.Frac{}, api.ErrLimit},
		{1000000000000, -1, frac(-1000000000000, 1), api.OK}, {1000000000001, 1000000, api.Frac{}, api.ErrLimit},
		{1000000000000000, 1000, frac(1000000000000, 1), api.OK}, {1000000000000000, 1000000000000000, frac(1, 1), api.OK},
		{-1000000000000000, -1000000000000000, frac(1, 1), api.OK}, {1000000000000000, 999, api.Frac{}, api.ErrLimit},
		{1, 0, api.Frac{}, api.ErrArg}, {0, 0, api.Frac{}, api.ErrArg}, {1000000000000001, 0, api.Frac{}, api.ErrArg},
		{1000000000000001, 1000000000000001, api.Frac{}, api.ErrArg}, {-1000000000000001, 1, api.Frac{}, api.ErrArg}, {0, 1000000000000001, api.Frac{}, api.ErrArg},
		{0, -1000000000000001, api.Frac{}, api.ErrArg}, {math.MinInt, 1, api.Frac{}, api.ErrArg}, {1, math.MinInt, api.Frac{}, api.ErrArg},
		{math.MinInt, math.MinInt, api.Frac{}, api.ErrArg}, {math.MaxInt, math.MaxInt, api.Frac{}, api.ErrArg},
	} {
		if a, e := claim.Norm(c.num, c.den); a != c.want || e != c.e {
			t.Errorf("Norm(%d, %d): %v, error %d", c.num, c.den, a, e)
		}
	}
}

// randomFrac returns a valid fraction: a small one, a great one, or one with a great denominator.
func randomFrac(r *rand.Rand) api.Frac {
	if r.IntN(10) == 0 {
		return edges()[r.IntN(len(edges()))]
	}
	for {
		num := []int{20, 10000, 3000000, 1000000000000}[r.IntN(4)]
		den := []int{12, 1000, 1000000}[r.IntN(3)]
		if a, e := claim.Norm(r.IntN(2*num+1)-num, 1+r.IntN(den)); e == api.OK {
			return a
		}
	}
}

// operations are the functions of E2 with two operands, and what they should return.
func operations() map[string]struct {
	do   func(a, b api.Frac) (api.Frac, api.Errno)
	want func(z, x, y *big.Rat) *big.Rat
} {
	return map[string]struct {
		do   func(a, b api.Frac) (api.Frac, api.Errno)
		want func(z, x, y *big.Rat) *big.Rat
	}{"Add": {claim.Add, (*big.Rat).Add}, "Sub": {claim.Sub, (*big.Rat).Sub}, "Mul": {claim.Mul, (*big.Rat).Mul}}
}

// P5.1, E2: exact results, or ErrLimit, of all pairs of edges and of many others.
func TestOperations(t *testing.T) {
	for name, op := range operations() {
		limits, results := 0, 0
		check := func(a, b api.Frac) {
			c, e := op.do(a, b)
			want := op.want(new(big.Rat), rat(a), rat(b))
			if inRange(want) {
				results++
				if e != api.OK || c != fracOf(want) {
					t.Errorf("%s of %v, %v: %v, error %d, want %v", name, a, b, c, e, want)
				}
				return
			}
			limits++
			if e != api.ErrLimit || c != (api.Frac{}) {
				t.Errorf("%s of %v, %v: %v, error %d, want ErrLimit", name, a, b, c, e)
			}
		}
		for _, a := range edges() {
			for _, b := range edges() {
				check(a, b)
			}
		}
		r := rand.New(rand.NewPCG(5, 2))
		for range 100000 {
			check(randomFrac(r), randomFrac(r))
		}
		if limits < 1000 || results < 1000 {
			t.Errorf("%s: only %d results in range, %d others", name, results, limits)
		}
		for _, a := range invalid() {
			for _, b := range append(edges(), invalid()...) {
				if c, e := op.do(a, b); c != (api.Frac{}) || e != api.ErrArg {
					t.Errorf("%s of %v, %v: %v, error %d", name, a, b, c, e)
				}
				if c, e := op.do(b, a); c != (api.Frac{}) || e != api.ErrArg {
					t.Errorf("%s of %v, %v: %v, error %d", name, b, a, c, e)
				}
			}
		}
	}
	if a, e := claim.Add(frac(1, 2), frac(1, 3)); a != frac(5, 6) || e != api.OK {
		t.Errorf("Add: %v, error %d", a, e)
	}
}

// P5.1, E2: sums of lists, from the first one on.
func TestSum(t *testing.T) {
	halves := make([]api.Frac, 1001)
	for i := range halves {
		halves[i] = frac(1, 2)
	}
	most := frac(1000000000000, 1)
	spoilt := append([]api.Frac{most, most}, halves...)
	for _, c := range []struct {
		what string
		l    []api.Frac
		want api.Frac
		e    api.Errno
	}{
		{"none", nil, frac(0, 1), api.OK},
		{"none", []api.Frac{}, frac(0, 1), api.OK},
		{"one", []api.Frac{frac(-3, 4)}, frac(-3, 4), api.OK},
		{"three", []api.Frac{frac(1, 2), frac(1, 3), frac(1, 6)}, frac(1, 1), api.OK},
		{"1000", halves[:1000], frac(500, 1), api.OK},
		{"1001", halves, api.Frac{}, api.ErrLimit},
		{"1001, one invalid", append([]api.Frac{{}}, halves[1:]...), api.Frac{}, api.ErrLimit},
		{"one invalid", []api.Frac{frac(1, 2), frac(2, 4)}, api.Frac{}, api.ErrArg},
		{"one invalid behind a sum out of range", []api.Frac{most, most, frac(2, 4)}, api.Frac{}, api.ErrArg},
		{"a sum out of range", []api.Frac{most, frac(1, 1)}, api.Frac{}, api.ErrLimit},
		{"a sum out of range between", []api.Frac{most, frac(1, 1), frac(-1, 1)}, api.Frac{}, api.ErrLimit},
		{"in another order", []api.Frac{most, frac(-1, 1), frac(1, 1)}, most, api.OK},
		{"a denominator out of range between", []api.Frac{frac(1, 997), frac(1, 1009), frac(-1, 1009)}, api.Frac{}, api.ErrLimit},
		{"in another order", []api.Frac{frac(1, 1009), frac(-1, 1009), frac(1, 997)}, frac(1, 997), api.OK},
		{"a great one at last", []api.Frac{frac(1, 1000000), most}, api.Frac{}, api.ErrLimit},
		{"too many, and a sum out of range", spoilt, api.Frac{}, api.ErrLimit},
	} {
		if a, e := claim.Sum(c.l); a != c.want || e != c.e {
			t.Errorf("%s: %v, error %d", c.what, a, e)
		}
	}
}

// P5.1, E3: order and integers, of edges and of many others.
func TestCompare(t *testing.T) {
	check := func(a, b api.Frac) {
		if got := claim.Compare(a, b); got != rat(a).Cmp(rat(b)) {
			t.Errorf("Compare(%v, %v): %d", a, b, got)
		}
		floor := integer(claim.Floor(a))
		ceil := integer(claim.Ceil(a))
		if floor.Cmp(rat(a)) > 0 || rat(a).Cmp(new(big.Rat).Add(floor, integer(1))) >= 0 {
			t.Errorf("Floor(%v): %v", a, floor)
		}
		if ceil.Cmp(rat(a)) < 0 || rat(a).Cmp(new(big.Rat).Sub(ceil, integer(1))) <= 0 {
			t.Errorf("Ceil(%v): %v", a, ceil)
		}
	}
	for _, a := range edges() {
		for _, b := range edges() {
			check(a, b)
		}
	}
	r := rand.New(rand.NewPCG(5, 3))
	for range 50000 {
		check(randomFrac(r), randomFrac(r))
	}
	for _, c := range []struct {
		a           api.Frac
		floor, ceil int
	}{{frac(-7, 2), -4, -3}, {frac(7, 2), 3, 4}, {frac(-4, 1), -4, -4}, {frac(4, 1), 4, 4}, {frac(0, 1), 0, 0}, {frac(-1, 1000000), -1, 0}, {frac(1, 1000000), 0, 1}} {
		if claim.Floor(c.a) != c.floor || claim.Ceil(c.a) != c.ceil {
			t.Errorf("Floor, Ceil of %v: %d, %d", c.a, claim.Floor(c.a), claim.Ceil(c.a))
		}
	}
	for _, a := range invalid() {
		if claim.Floor(a) != 0 || claim.Ceil(a) != 0 {
			t.Errorf("Floor, Ceil of %v: %d, %d", a, claim.Floor(a), claim.Ceil(a))
		}
		for _, b := range append(edges(), invalid()...) {
			if claim.Compare(a, b) != 0 || claim.Compare(b, a) != 0 {
				t.Errorf("Compare of %v, %v: %d, %d", a, b, claim.Compare(a, b), claim.Compare(b, a))
			}
		}
	}
}

// P5.3: the laws of sums, products and the order.
func TestLaws(t *testing.T) {
	r := rand.New(rand.NewPCG(5, 33))
	sums := 0
	for range 50000 {
		a, b, c := randomFrac(r), randomFrac(r), randomFrac(r)
		for name, op := range operations() {
			x, e := op.do(a, b)
			y, g := op.do(b, a)
			if name != "Sub" && (x != y || e != g) {
				t.Fatalf("%s of %v, %v: %v, error %d, the other way round %v, error %d", name, a, b, x, e, y, g)
			}
		}
		sum, e := claim.Add(a, b)
		if e == api.OK {
			if d, e := claim.Sub(sum, b); d != a || e != api.OK {
				t.Fatalf("Sub(%v, %v): %v, error %d, want %v", sum, b, d, e, a)
			}
		}
		if claim.Compare(a, a) != 0 || claim.Compare(a, b) != -claim.Compare(b, a) || (claim.Compare(a, b) == 0) != (a == b) {
			t.Fatalf("Compare of %v, %v", a, b)
		}
		if claim.Compare(a, b) <= 0 && claim.Compare(b, c) <= 0 && claim.Compare(a, c) > 0 {
			t.Fatalf("Compare of %v, %v, %v", a, b, c)
		}
		x, e := claim.Add(a, c)
		y, g := claim.Add(b, c)
		if e == api.OK && g == api.OK {
			sums++
			if claim.Compare(x, y) != claim.Compare(a, b) {
				t.Fatalf("Compare of %v, %v, and with %v", a, b, c)
			}
		}
	}
	if sums < 1000 {
		t.Errorf("only %d sums were compared", sums)
	}
}
