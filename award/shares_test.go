package award_test

import (
	"math"
	"math/rand/v2"
	"slices"
	"testing"

	"lagan/api"
	"lagan/award"
	"lagan/claim"
)

// so returns a number so many times.
func so(many, n int) []int { return slices.Repeat([]int{n}, many) }

// P6.1, F6, and P6.3: equal parts, and what has none.
func TestEqual(t *testing.T) {
	for _, c := range []struct {
		pence   int
		parties []int
		want    []int
		e       api.Errno
	}{
		{8, []int{4, 5, 4}, []int{3, 3, 2}, api.OK}, {9, []int{4, 5, 4}, []int{3, 3, 3}, api.OK}, {7, []int{4, 5, 4}, []int{3, 2, 2}, api.OK},
		{2, []int{9, 5, 4}, []int{1, 1, 0}, api.OK}, {0, []int{9, 5, 4}, []int{0, 0, 0}, api.OK}, {1000000000, []int{40}, []int{1000000000}, api.OK},
		{1000000000, []int{1, 40, 1}, []int{333333334, 333333333, 333333333}, api.OK}, {40, so(40, 1), so(40, 1), api.OK}, {39, so(40, 7), append(so(39, 1), 0), api.OK},
		{-1, []int{1}, nil, api.ErrArg}, {1000000001, []int{1}, nil, api.ErrArg}, {math.MinInt, []int{1}, nil, api.ErrArg}, {math.MaxInt, []int{1}, nil, api.ErrArg},
		{5, nil, nil, api.ErrArg}, {5, []int{}, nil, api.ErrArg}, {5, so(41, 1), nil, api.ErrArg},
		{5, []int{0}, nil, api.ErrArg}, {5, []int{41}, nil, api.ErrArg}, {5, []int{1, 2, -1}, nil, api.ErrArg}, {5, []int{math.MinInt}, nil, api.ErrArg}, {5, []int{1, math.MaxInt}, nil, api.ErrArg},
	} {
		got, e := award.Equal(c.pence, c.parties)
		same(t, "Equal", got, c.want)
		if e != c.e {
			t.Errorf("Equal(%d, %v): error %d, want %d", c.pence, c.parties, e, c.e)
		}
	}
	r := rand.New(rand.NewPCG(6, 7))
	for range 2000 {
		pence, finders := r.IntN(100), randomFinders(r)
		if r.IntN(3) == 0 {
			pence = r.IntN(1000000001)
		}
		parts, e := award.Equal(pence, finders)
		sum := 0
		for i, part := range parts {
			sum += part
			if part < pence/len(finders) || part > pence/len(finders)+1 || i > 0 && parts[i-1] < part {
				t.Fatalf("Equal(%d, %v): %v", pence, finders, parts)
			}
		}
		if sum != pence || len(parts) != len(finders) || e != api.OK {
			t.Fatalf("Equal(%d, %v): %v, error %d", pence, finders, parts, e)
		}
	}
}

// P6.1, F7: the chapter's example, each error, and their order.
func TestDivide(t *testing.T) {
	title := func(party, num, den int) api.Title { return api.Title{Party: party, Share: frac(num, den)} }
	var all, thin []api.Title
	for party := range 41 {
		all = append(all, title(party, 1, 41))
		thin = append(thin, title(40-party, 1, 999979-2*party))
	}
	for _, c := range []struct {
		what   string
		pence  int
		titles []api.Title
		want   []api.Share
		left   int
		e      api.Errno
	}{
		{"the example", 37, []api.Title{title(0, 1, 2), title(3, 1, 3)}, shares(0, 18, 3, 12), 7, api.OK},
		{"in the order of the titles", 37, []api.Title{title(3, 1, 3), title(0, 1, 2)}, shares(3, 12, 0, 18), 7, api.OK},
		{"all, and one from whom most is cut off", 100, []api.Title{title(9, 1, 3), title(2, 2, 3)}, shares(9, 33, 2, 67), 0, api.OK},
		{"nothing for some", 1, []api.Title{title(9, 1, 3), title(2, 0, 1), title(40, 2, 3)}, shares(9, 0, 2, 0, 40, 1), 0, api.OK},
		{"nothing", 0, []api.Title{title(9, 1, 3), title(2, 2, 3)}, shares(9, 0, 2, 0), 0, api.OK},
		{"no titles", 37, nil, nil, 37, api.OK},
		{"the greatest pence", 1000000000, []api.Title{title(1, 999999, 1000000)}, shares(1, 999999000), 1000, api.OK},
		{"all parties", 41, all, nil, 0, api.OK},
		{"a party below 0", 37, []api.Title{title(-1, 1, 3)}, nil, 0, api.ErrArg},
		{"a party above 40", 37, []api.Title{title(41, 1, 3)}, nil, 0, api.ErrArg},
		{"a party twice", 37, []api.Title{title(3, 1, 3), title(2, 1, 3), title(3, 1, 3)}, nil, 0, api.ErrArg},
		{"a party twice, more than all", 37, []api.Title{title(3, 1, 1), title(3, 1, 3)}, nil, 0, api.ErrArg},
		{"no party, more than all", 37, []api.Title{title(3, 1, 1), title(41, 1, 3)}, nil, 0, api.ErrArg},
		{"the crown twice", 37, []api.Title{title(0, 1, 3), title(0, 1, 3)}, nil, 0, api.ErrArg},
		{"too many", 37, append(all[:41:41], title(40, 1, 41)), nil, 0, api.ErrArg},
		{"pence below 0", -1, []api.Title{title(3, 1, 3)}, nil, 0, api.ErrArg},
		{"too many pence", 1000000001, []api.Title{title(3, 1, 3)}, nil, 0, api.ErrArg},
		{"too many pence, and more than all", 1000000001, []api.Title{title(3, 1, 1), title(4, 1, 3)}, nil, 0, api.ErrArg},
		{"no fraction", 37, []api.Title{title(3, 2, 4)}, nil, 0, api.ErrArg},
		{"a fraction below 0", 37, []api.Title{title(3, -1, 3)}, nil, 0, api.ErrArg},
		{"a fraction above 1", 37, []api.Title{title(3, 4, 3)}, nil, 0, api.ErrArg},
		{"a sum that is not in range", 37, thin, nil, 0, api.ErrLimit},
		{"more than all", 37, []api.Title{title(3, 2, 3), title(4, 1, 2)}, nil, 0, api.ErrParts},
	} {
		got, left, e := award.Divide(c.pence, c.titles)
		if c.want != nil || c.e != api.OK {
			same(t, c.what, got, c.want)
		}
		if left != c.left || e != c.e {
			t.Errorf("%s: %d left, error %d, want %d, error %d", c.what, left, e, c.left, c.e)
		}
	}
	got, _, _ := award.Divide(41, all)
	for party, x := range got {
		if len(got) != 41 || x != (api.Share{Party: party, Pence: 1}) {
			t.Errorf("all parties: %v", got)
		}
	}
}

// P6.1, F7, and P6.2: what titles divide, and what is left, add up.
func TestDivideModel(t *testing.T) {
	r := rand.New(rand.NewPCG(6, 8))
	seen := map[api.Errno]int{}
	for range 5000 {
		var titles []api.Title
		var parts []api.Frac
		for _, party := range r.Perm(41)[:r.IntN(5)] {
			a := randomPart(r)
			titles, parts = append(titles, api.Title{Party: party, Share: a}), append(parts, a)
		}
		pence := r.IntN(1000)
		split, g := claim.Split(pence, parts)
		got, left, e := award.Divide(pence, titles)
		if e != g || len(got) != len(split) || e != api.OK && left != 0 {
			t.Fatalf("Divide(%d, %v): %v, %d, error %d, want %v, error %d", pence, titles, got, left, e, split, g)
		}
		sum := left
		for i, x := range got {
			sum += x.Pence
			if x != (api.Share{Party: titles[i].Party, Pence: split[i]}) {
				t.Fatalf("Divide(%d, %v): %v, want %v", pence, titles, got, split)
			}
		}
		if e == api.OK && (sum != pence || left < 0) {
			t.Fatalf("Divide(%d, %v): %v, %d", pence, titles, got, left)
		}
		seen[e]++
	}
	for _, e := range []api.Errno{api.OK, api.ErrParts, api.ErrLimit} {
		if seen[e] < 100 {
			t.Errorf("the error %d was there %d times only", e, seen[e])
		}
	}
}

// P6.1, F9: the pence of a party.
func TestOf(t *testing.T) {
	a := api.Award{Price: 100, Rest: 3, Shares: shares(4, 33, 5, 17, 4, -3, 0, 8, -7, 2)}
	for party, want := range map[int]int{4: 30, 5: 17, 0: 8, -7: 2, 6: 0, math.MinInt: 0, math.MaxInt: 0} {
		if n := award.Of(a, party); n != want {
			t.Errorf("Of %d: %d, want %d", party, n, want)
		}
	}
	if n := award.Of(api.Award{}, 0); n != 0 {
		t.Errorf("Of nothing: %d", n)
	}
}

// P6.1, F9: sums and changes.
func TestMergeAndChange(t *testing.T) {
	for _, c := range []struct {
		what       string
		a, b, want []api.Share
	}{
		{"the example", shares(4, 33, 7, 10), shares(4, 50, 8, 3), shares(4, 17, 7, -10, 8, 3)},
		{"nothing", nil, nil, nil},
		{"from nothing", nil, shares(8, 3, 4, 5), shares(4, 5, 8, 3)},
		{"to nothing", shares(8, 3, 4, 5), nil, shares(4, -5, 8, -3)},
		{"the same in another order", shares(8, 3, 4, 5), shares(4, 5, 8, 3), nil},
		{"sums", shares(8, 3, 4, 5, 8, 4), shares(4, 2, 8, 6, 4, 3, 8, 1), nil},
		{"sums that are less than 0", shares(8, -3), shares(8, -10, 8, 1), shares(8, -6)},
		{"sums that go through 0", shares(8, 3, 8, -3, 8, 2), shares(8, 2, 8, -2), shares(8, -2)},
		{"the crown and the last party", shares(40, 1, 0, 1), shares(0, 2, 40, 3), shares(0, 1, 40, 2)},
		{"pence 0", shares(8, 0), shares(9, 0), nil},
	} {
		got, e := award.Change(c.a, c.b)
		same(t, c.what, got, c.want)
		if e != api.OK {
			t.Errorf("%s: error %d", c.what, e)
		}
	}
	for _, c := range []struct{ l, want []api.Share }{
		{nil, nil}, {shares(8, 3), shares(8, 3)}, {shares(8, 3, 4, 5, 8, 4), shares(4, 5, 8, 7)}, {shares(8, 3, 4, 5, 8, -3), shares(4, 5)}, {shares(8, -3, 4, 0), shares(8, -3)},
		{shares(40, 1000000000, 0, -1000000000), shares(0, -1000000000, 40, 1000000000)},
	} {
		got, e := award.Merge(c.l)
		same(t, "Merge", got, c.want)
		if e != api.OK {
			t.Errorf("Merge(%v): error %d", c.l, e)
		}
	}
}

// P6.1, F9: the errors of Merge and Change, and their order.
func TestMergeAndChangeErrors(t *testing.T) {
	most := slices.Repeat(shares(7, 1000000000), 1000)
	tooMany := slices.Repeat(shares(-1, 1), 1001)
	for _, c := range []struct {
		l    []api.Share
		want api.Errno
	}{
		{shares(-1, 5), api.ErrArg}, {shares(41, 5), api.ErrArg}, {shares(math.MinInt, 5), api.ErrArg}, {shares(math.MaxInt, 0), api.ErrArg},
		{shares(1, 1000000001), api.ErrArg}, {shares(1, -1000000001), api.ErrArg}, {shares(1, math.MinInt), api.ErrArg}, {shares(1, 2, 1, math.MaxInt), api.ErrArg},
		{append(shares(41, 1), most[:999]...), api.ErrArg}, {tooMany, api.ErrLimit}, {append(most[:1000:1000], most...), api.ErrLimit},
		{most, api.OK}, {shares(1, 1000000000, 2, -1000000000, 0, 0), api.OK},
	} {
		got, e := award.Merge(c.l)
		if e != c.want || e != api.OK && len(got) > 0 {
			t.Errorf("Merge: %v, error %d, want %d", got, e, c.want)
		}
		for _, other := range []struct {
			l    []api.Share
			want api.Errno
		}{{nil, api.OK}, {most, api.OK}, {shares(41, 1), api.ErrArg}, {tooMany, api.ErrLimit}} {
			want := c.want
			if want == api.OK {
				want = other.want
			}
			got, e := award.Change(c.l, other.l)
			if e != want || e != api.OK && len(got) > 0 {
				t.Errorf("Change: %v, error %d, want %d", got, e, want)
			}
		}
	}
	got, e := award.Merge(most)
	same(t, "Merge of the most", got, shares(7, 1000000000000))
	back, g := award.Change(most, slices.Repeat(shares(7, -1000000000), 1000))
	same(t, "Change of the most", back, shares(7, -2000000000000))
	if e != api.OK || g != api.OK {
		t.Errorf("errors %d, %d", e, g)
	}
}

// P6.1, F9, and P6.8: many lists.
func TestChangeModel(t *testing.T) {
	r := rand.New(rand.NewPCG(6, 9))
	random := func() []api.Share {
		var l []api.Share
		for range r.IntN(8) {
			l = append(l, api.Share{Party: r.IntN(4), Pence: r.IntN(7) - 3})
		}
		return l
	}
	for range 5000 {
		a, b := random(), random()
		var sums, change, back [41]int
		for _, x := range a {
			sums[x.Party] += x.Pence
			change[x.Party] -= x.Pence
			back[x.Party] += x.Pence
		}
		for _, x := range b {
			change[x.Party] += x.Pence
			back[x.Party] -= x.Pence
		}
		got, e := award.Merge(a)
		same(t, "Merge", got, sharesOf(sums))
		there, f := award.Change(a, b)
		same(t, "Change", there, sharesOf(change))
		here, g := award.Change(b, a)
		same(t, "Change back", here, sharesOf(back))
		more, h := award.Merge(append(slices.Clone(a), there...))
		target, i := award.Merge(b)
		same(t, "Change added", more, target)
		if e != api.OK || f != api.OK || g != api.OK || h != api.OK || i != api.OK {
			t.Fatalf("errors %d, %d, %d, %d, %d", e, f, g, h, i)
		}
	}
}

// sharesOf returns the shares of parties that are not 0.
func sharesOf(sums [41]int) []api.Share {
	var out []api.Share
	for party, pence := range sums {
		if pence != 0 {
			out = append(out, api.Share{Party: party, Pence: pence})
		}
	}
	return out
}
