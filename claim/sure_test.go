package claim_test

import (
	"math"
	"math/big"
	"math/rand/v2"
	"slices"
	"testing"

	"lagan/api"
	"lagan/claim"
)

// lists reads lists of titles.
func lists(t testing.TB, l ...string) [][]api.Title {
	t.Helper()
	var out [][]api.Title
	for _, s := range l {
		out = append(out, titles(t, s))
	}
	return out
}

// P5.1, E9: what all lists have, and what some has.
func TestCommonGreatest(t *testing.T) {
	for _, c := range []struct {
		l                []string
		common, greatest string
	}{
		{[]string{"7 1/3, 20 1/2", "7 1/4, 21 3/4"}, "7 1/4", "7 1/3, 20 1/2, 21 3/4"},
		{nil, "", ""},
		{[]string{""}, "", ""},
		{[]string{"", "7 1/1"}, "", "7 1/1"},
		{[]string{"7 1/1", ""}, "", "7 1/1"},
		{[]string{"0 1/2, 40 1/2"}, "0 1/2, 40 1/2", "0 1/2, 40 1/2"},
		{[]string{"0 1/2, 40 1/2", "0 1/3, 40 2/3"}, "0 1/3, 40 1/2", "0 1/2, 40 2/3"},
		{[]string{"0 1/3, 40 2/3", "0 1/2, 40 1/2", "0 1/4, 3 1/4, 40 1/2"}, "0 1/4, 40 1/2", "0 1/2, 3 1/4, 40 2/3"},
		{[]string{"1 1/1000000", "1 1/999999"}, "1 1/1000000", "1 1/999999"},
		{[]string{"1 1/1, 2 1/1", "1 1/1, 2 1/1"}, "1 1/1, 2 1/1", "1 1/1, 2 1/1"},
		{[]string{"1 1/1", "2 1/1", "3 1/1"}, "", "1 1/1, 2 1/1, 3 1/1"},
	} {
		l := lists(t, c.l...)
		common, e := claim.Common(l)
		greatest, g := claim.Greatest(l)
		same(t, "Common", common, titles(t, c.common))
		same(t, "Greatest", greatest, titles(t, c.greatest))
		if e != api.OK || g != api.OK {
			t.Errorf("%v: errors %d, %d", c.l, e, g)
		}
	}
}

// P5.1, E9: lists that are none.
func TestCommonErrors(t *testing.T) {
	good := titles(t, "7 1/3, 20 1/2")
	spoilt := [][]api.Title{
		titles(t, "20 1/2, 7 1/3"), titles(t, "7 1/3, 7 1/2"), titles(t, "-1 1/3"), titles(t, "41 1/3"), titles(t, "0 1/3, 40 1/3, 41 1/3"),
		{{Party: math.MinInt, Share: frac(1, 2)}}, {{Party: math.MaxInt, Share: frac(1, 2)}},
	}
	for _, a := range append(invalid(), frac(0, 1), frac(-1, 2), frac(3, 2), frac(2, 1), frac(1000000, 999999)) {
		spoilt = append(spoilt, []api.Title{{Party: 7, Share: a}}, []api.Title{good[0], {Party: 8, Share: a}})
	}
	check := func(l [][]api.Title, want api.Errno) {
		t.Helper()
		common, e := claim.Common(l)
		greatest, g := claim.Greatest(l)
		if e != want || g != want || want != api.OK && len(common)+len(greatest) > 0 {
			t.Errorf("%v: %v, error %d; %v, error %d; want %d", l[0], common, e, greatest, g, want)
		}
	}
	for _, x := range spoilt {
		check([][]api.Title{x}, api.ErrArg)
		check([][]api.Title{good, good, x}, api.ErrArg)
		check([][]api.Title{nil, x, good}, api.ErrArg)
	}
	many := slices.Repeat([][]api.Title{good}, 1001)
	check(many[:1000], api.OK)
	check(many, api.ErrLimit)
	check(slices.Repeat([][]api.Title{spoilt[0]}, 1001), api.ErrLimit)
}

// shareIn returns the share of a party in a list, 0 if it has none.
func shareIn(l []api.Title, party int) api.Frac {
	for _, x := range l {
		if x.Party == party {
			return x.Share
		}
	}
	return frac(0, 1)
}

// P5.1, P5.8: titles of many registers.
func TestSure(t *testing.T) {
	t.Parallel()
	r := rand.New(rand.NewPCG(5, 88))
	several := 0
	for range 5000 {
		var l [][]api.Title
		a := randomAsked(r)
		for range 1 + r.IntN(3) {
			a.hour = r.IntN(24)
			if got, e := claim.Titles(a.l, a.loss, a.pack, a.owner, a.known, a.hour, -1); e == api.OK {
				l = append(l, got)
			}
		}
		common, e := claim.Common(l)
		greatest, g := claim.Greatest(l)
		if e != api.OK || g != api.OK {
			t.Fatalf("%v: errors %d, %d", l, e, g)
		}
		sum := integer(0)
		var least, most []api.Title
		for party := range 41 {
			low, high := integer(1000), integer(0)
			for _, x := range l {
				if s := rat(shareIn(x, party)); s.Cmp(low) < 0 {
					low = s
				}
				if s := rat(shareIn(x, party)); s.Cmp(high) > 0 {
					high = s
				}
			}
			sum.Add(sum, low)
			if low.Sign() > 0 {
				least = append(least, api.Title{Party: party, Share: fracOf(low)})
			}
			if high.Sign() > 0 {
				most = append(most, api.Title{Party: party, Share: fracOf(high)})
			}
		}
		same(t, "Common", common, least)
		same(t, "Greatest", greatest, most)
		if sum.Cmp(integer(1)) > 0 {
			t.Fatalf("%v: the sum of %v", l, common)
		}
		var parts []api.Frac
		for _, x := range common {
			parts = append(parts, x.Share)
		}
		if s, e := claim.Sum(parts); e == api.OK && claim.Compare(s, frac(1, 1)) > 0 {
			t.Fatalf("%v: the sum of %v is %v", l, common, s)
		}
		several += len(common) / 2
	}
	if several < 500 {
		t.Errorf("only %d lists with several parties in common", several)
	}
}

// P5.1, E10: whole pence.
func TestSplit(t *testing.T) {
	third := frac(1, 3)
	for _, c := range []struct {
		total int
		parts []api.Frac
		want  []int
	}{
		{100, []api.Frac{third, third, third}, []int{34, 33, 33}}, {100, []api.Frac{third, third}, []int{33, 33}},
		{101, []api.Frac{third, third, third}, []int{34, 34, 33}}, {2, []api.Frac{third, third}, []int{1, 0}}, {1, []api.Frac{third, third}, []int{0, 0}},
		{0, []api.Frac{third, third}, []int{0, 0}}, {100, nil, nil}, {0, nil, nil}, {1, []api.Frac{frac(1, 1)}, []int{1}}, {1, []api.Frac{frac(0, 1), frac(1, 1)}, []int{0, 1}},
		{10, []api.Frac{frac(1, 4), frac(2, 3), frac(1, 12)}, []int{2, 7, 1}}, // 2.5, 6.67, 0.83
		{10, []api.Frac{frac(1, 12), frac(1, 4), frac(2, 3)}, []int{1, 2, 7}},
		{1, []api.Frac{frac(0, 1), frac(1, 2), frac(1, 2)}, []int{0, 1, 0}}, {1, []api.Frac{frac(499999, 1000000), frac(1, 2)}, []int{0, 0}},
		{1, []api.Frac{frac(499999, 1000000), frac(500001, 1000000)}, []int{0, 1}}, {1, []api.Frac{frac(0, 1), frac(0, 1)}, []int{0, 0}},
		{1000000000, []api.Frac{frac(999999, 1000000), frac(1, 1000000)}, []int{999999000, 1000}}, {999999999, []api.Frac{frac(1, 2), frac(1, 2)}, []int{500000000, 499999999}},
		{999999999, []api.Frac{frac(1, 1000000), frac(999999, 1000000)}, []int{1000, 999998999}},
		{100, slices.Repeat([]api.Frac{frac(1, 41)}, 41), append(slices.Repeat([]int{3}, 18), slices.Repeat([]int{2}, 23)...)},
	} {
		got, e := claim.Split(c.total, c.parts)
		same(t, "Split", got, c.want)
		if e != api.OK {
			t.Errorf("Split(%d, %v): error %d", c.total, c.parts, e)
		}
	}
}

// P5.1, E10: the errors of Split, and their order.
func TestSplitErrors(t *testing.T) {
	wide := []api.Frac{frac(1, 997), frac(1, 1009)}
	for _, c := range []struct {
		what  string
		total int
		parts []api.Frac
		want  api.Errno
	}{
		{"41 parts", 1, slices.Repeat([]api.Frac{frac(1, 50)}, 41), api.OK},
		{"42 parts", 1, slices.Repeat([]api.Frac{frac(1, 50)}, 42), api.ErrLimit},
		{"42 parts, a wrong total", -1, slices.Repeat([]api.Frac{{}}, 42), api.ErrLimit},
		{"a total below 0", -1, nil, api.ErrArg},
		{"the greatest total", 1000000000, nil, api.OK},
		{"a total above it", 1000000001, nil, api.ErrArg},
		{"a wrong total", math.MinInt, []api.Frac{frac(1, 1), frac(1, 1)}, api.ErrArg},
		{"a wrong total", math.MaxInt, wide, api.ErrArg},
		{"a part below 0", 1, []api.Frac{frac(-1, 2)}, api.ErrArg},
		{"a part above 1", 1, []api.Frac{frac(3, 2)}, api.ErrArg},
		{"a part that is not valid, behind more than all", 1, []api.Frac{frac(1, 1), frac(1, 1), {}}, api.ErrArg},
		{"a part that is not valid, behind what is not in range", 1, []api.Frac{wide[0], wide[1], frac(2, 4)}, api.ErrArg},
		{"not in range", 1, wide, api.ErrLimit},
		{"not in range, and more than all", 1, []api.Frac{frac(1, 1), frac(1, 1), wide[0], wide[1]}, api.ErrLimit},
		{"not in range up to some part", 1, []api.Frac{wide[0], wide[1], frac(996, 997)}, api.ErrLimit},
		{"all", 1, []api.Frac{frac(1, 1), frac(0, 1)}, api.OK},
		{"more than all", 0, []api.Frac{frac(1, 1), frac(1, 1000000)}, api.ErrParts},
		{"more than all", 5, []api.Frac{frac(1, 2), frac(1, 2), frac(1, 2)}, api.ErrParts},
	} {
		if got, e := claim.Split(c.total, c.parts); e != c.want || e != api.OK && len(got) > 0 {
			t.Errorf("%s: %v, error %d, want %d", c.what, got, e, c.want)
		}
	}
	for _, a := range invalid() {
		if got, e := claim.Split(1, []api.Frac{a}); e != api.ErrArg || len(got) > 0 {
			t.Errorf("%v: %v, error %d", a, got, e)
		}
	}
}

// P5.9: pence add up, each is less than one away from the exact amount, and those who get one more are those from
// whom most was cut off.
func TestWholePence(t *testing.T) {
	r := rand.New(rand.NewPCG(5, 99))
	splits := 0
	for range 50000 {
		var parts []api.Frac
		for range r.IntN(7) {
			parts = append(parts, []api.Frac{randomShare(r), frac(0, 1), frac(1, 1+r.IntN(12)), frac(1, 7)}[r.IntN(4)])
		}
		total := []int{r.IntN(20), r.IntN(1000), 1000000000 - r.IntN(1000)}[r.IntN(3)]
		got, e := claim.Split(total, parts)
		if e != api.OK {
			continue
		}
		splits++
		sum, pence := integer(0), 0
		more, cut := map[int]bool{}, map[int]*big.Rat{}
		for i, p := range parts {
			exact := new(big.Rat).Mul(integer(total), rat(p))
			sum.Add(sum, exact)
			pence += got[i]
			more[i] = got[i] > floorOf(exact)
			cut[i] = new(big.Rat).Sub(exact, integer(floorOf(exact)))
			if away := new(big.Rat).Sub(exact, integer(got[i])); away.Abs(away).Cmp(integer(1)) >= 0 {
				t.Fatalf("Split(%d, %v): %v", total, parts, got)
			}
		}
		if pence != floorOf(sum) {
			t.Fatalf("Split(%d, %v): %v", total, parts, got)
		}
		for i := range parts {
			for j := range i {
				c := cut[i].Cmp(cut[j])
				if more[i] && !more[j] && c <= 0 || more[j] && !more[i] && c > 0 {
					t.Fatalf("Split(%d, %v): %v", total, parts, got)
				}
			}
		}
	}
	if splits < 5000 {
		t.Errorf("only %d splits", splits)
	}
}
