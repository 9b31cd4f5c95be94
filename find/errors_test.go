package find_test

import (
	"math"
	"math/rand/v2"
	"reflect"
	"slices"
	"testing"

	"lagan/api"
	"lagan/find"
)

// asked is all that a function can be asked.
type asked struct {
	l             []api.Report
	known         int
	parcel, other int
	upper         bool
	list          []int
}

// call is a function that returns an error behind that of Check.
type call struct {
	name     string
	parcels  int  // how many it is asked for
	balanced bool // it refuses reports that contradict each other
	do       func(a asked) (results []any, e api.Errno)
}

func calls() []call {
	return []call{
		{"Counting", 0, false, func(a asked) ([]any, api.Errno) {
			r, e := find.Counting(a.l, a.known)
			return []any{len(r)}, e
		}},
		{"Parcels", 0, false, func(a asked) ([]any, api.Errno) {
			r, e := find.Parcels(a.l, a.known)
			return []any{len(r)}, e
		}},
		{"ParcelOf", 1, false, func(a asked) ([]any, api.Errno) {
			r, e := find.ParcelOf(a.l, a.known, a.parcel)
			return []any{r}, e
		}},
		{"Finds", 0, false, func(a asked) ([]any, api.Errno) {
			r, e := find.Finds(a.l, a.known)
			return []any{len(r)}, e
		}},
		{"Present", 0, false, func(a asked) ([]any, api.Errno) {
			r, e := find.Present(a.l, a.known, a.other)
			return []any{len(r)}, e
		}},
		{"Origins", 1, false, func(a asked) ([]any, api.Errno) {
			r, e := find.Origins(a.l, a.known, a.parcel)
			return []any{len(r)}, e
		}},
		{"Remains", 1, false, func(a asked) ([]any, api.Errno) {
			r, e := find.Remains(a.l, a.known, a.parcel)
			return []any{len(r)}, e
		}},
		{"Chain", 2, false, func(a asked) ([]any, api.Errno) {
			r, e := find.Chain(a.l, a.known, a.parcel, a.other)
			return []any{len(r)}, e
		}},
		{"CheckChain", 2, false, func(a asked) ([]any, api.Errno) {
			r, e := find.CheckChain(a.l, a.known, a.parcel, a.other, a.list)
			return []any{r}, e
		}},
		{"Weight", 1, true, func(a asked) ([]any, api.Errno) {
			low, high, e := find.Weight(a.l, a.known, a.parcel)
			return []any{low, high}, e
		}},
		{"Bound", 1, true, func(a asked) ([]any, api.Errno) {
			end, x, side, e := find.Bound(a.l, a.known, a.parcel, a.upper)
			return []any{end, len(x), len(side)}, e
		}},
		{"CheckWeights", 0, false, func(a asked) ([]any, api.Errno) {
			r, e := find.CheckWeights(a.l, a.known, a.list)
			return []any{r}, e
		}},
		{"CheckSide", 1, false, func(a asked) ([]any, api.Errno) {
			r, e := find.CheckSide(a.l, a.known, a.parcel, a.upper, a.other, a.list)
			return []any{r}, e
		}},
		{"Conflict", 0, false, func(a asked) ([]any, api.Errno) {
			c, is, e := find.Conflict(a.l, a.known)
			return []any{c.Parcel, len(c.Side), is}, e
		}},
		{"CheckConflict", 0, false, func(a asked) ([]any, api.Errno) {
			r, e := find.CheckConflict(a.l, a.known, api.Conflict{Parcel: a.parcel, Side: a.list})
			return []any{r}, e
		}},
		{"Rests", 1, false, func(a asked) ([]any, api.Errno) {
			r, e := find.Rests(a.l, a.known, a.parcel, a.upper, a.list)
			return []any{len(r)}, e
		}},
		{"Changed", 0, true, func(a asked) ([]any, api.Errno) {
			r, e := find.Changed(a.l, a.known-1, a.known)
			return []any{len(r)}, e
		}},
	}
}

func anAsked(t testing.TB) asked {
	return asked{l: sample(t), known: 14, parcel: 10, other: 40}
}

// check holds a call against an error, beside which there is nothing.
func (c call) check(t testing.TB, a asked, want api.Errno) {
	t.Helper()
	results, e := c.do(a)
	if e != want {
		t.Errorf("%s: error %d, want %d: %+v", c.name, e, want, a)
	}
	for _, r := range results {
		if e != api.OK && !reflect.ValueOf(r).IsZero() {
			t.Errorf("%s: %v beside the error %d", c.name, r, e)
		}
	}
}

// P3.1: each error, and of several errors the one that is checked first.
func TestErrors(t *testing.T) {
	lists := []struct {
		want api.Errno
		line string
		x    api.Report
	}{
		{want: api.ErrArg, x: api.Report{}},
		{want: api.ErrArg, x: api.Report{Id: 9, Known: 14, Kind: 9}},
		{want: api.ErrTwice, line: "4 20 13 found 1 a oil 1 1 1"},
		{want: api.ErrTime, line: "9 13 13 found 1 a oil 1 1 1"},
		{want: api.ErrTime, line: "9 14 10 weighed 30 1 1"},
		{want: api.ErrParcel, line: "8 20 13 weighed 10 70 80"},
		{want: api.ErrHidden, line: "8 20 13 shown 30 1"},
		{want: api.ErrNone, line: "8 20 void 9"},
		{want: api.ErrState, line: "8 20 void 3"},
	}
	for _, c := range calls() {
		a := anAsked(t)
		c.check(t, a, api.OK)
		for _, spoil := range lists {
			for _, known := range []int{14, -1} { // the list is checked altogether
				a := anAsked(t)
				a.known = known
				x := spoil.x
				if spoil.line != "" {
					x = read(t, spoil.line)[0]
				}
				a.l = append(a.l, x)
				c.check(t, a, spoil.want)
				a.parcel, a.other = 11, 11
				c.check(t, a, spoil.want)
			}
		}
		a.l = manyReports(201)
		c.check(t, a, api.ErrLimit)
		for _, parcel := range []int{0, 1, 9, 11, 32, 50, 400, -10, math.MaxInt, math.MinInt} {
			for _, contradict := range []bool{false, true} {
				a, want := anAsked(t), api.OK
				a.parcel = parcel
				if contradict {
					a.l = with(t, a.l, "8 14 14 weighed 30 70 80")
				}
				if c.parcels > 0 {
					want = api.ErrParcel
				} else if contradict && c.balanced {
					want = api.ErrBalance
				}
				c.check(t, a, want)
				a.parcel, a.other = 10, parcel
				if c.parcels == 1 && !(contradict && c.balanced) {
					want = api.OK
				} else if c.parcels == 1 {
					want = api.ErrBalance
				}
				c.check(t, a, want)
			}
		}
		for _, known := range []int{-1, math.MinInt + 1, math.MaxInt, 1000001} {
			a, want := anAsked(t), api.OK
			a.known = known
			if known < 0 && c.parcels > 0 {
				want = api.ErrParcel
			}
			c.check(t, a, want)
		}
	}
}

// R1: whatever is asked, there is an answer or an error.
func TestWhateverIsAsked(t *testing.T) {
	t.Parallel()
	r := rand.New(rand.NewPCG(3, 11))
	number := func() int {
		return []int{0, 1, 2, 3, 4, 8, 9, 10, 20, 30, 31, 40, 41, 14, 200, 201, 1000000, 1000001, 10000007, 10000008, -1, -10, math.MaxInt, math.MinInt}[r.IntN(24)]
	}
	numbers := func() []int {
		var out []int
		for range r.IntN(10) {
			out = append(out, number())
		}
		return out
	}
	for range 20000 {
		a := asked{l: sample(t), known: number(), parcel: number(), other: number(), upper: r.IntN(2) == 0, list: numbers()}
		x := api.Report{Id: number(), Known: number(), Hour: number(), Kind: uint8(r.IntN(10)), Parcel: number(), Count: number(), Parts: numbers(), Cell: number(),
			Mark: "a", Goods: "oil", Weight: api.Span{Low: number(), High: number()}, Party: number(), Other: number(), Of: number()}
		if r.IntN(2) == 0 {
			x = api.Report{Id: number(), Known: 14, Hour: 14, Kind: x.Kind, Parcel: x.Parcel, Of: x.Of}
			switch x.Kind {
			case api.ReportDivided:
				x.Count = number()
			case api.ReportJoined:
				x.Parcel, x.Parts = 0, numbers()
			}
		}
		if r.IntN(2) == 0 {
			a.l = append(a.l, x)
		} else {
			a.l[r.IntN(len(a.l))] = x
		}
		for _, c := range calls() {
			c.do(a)
		}
		find.CheckReport(x)
		find.Write(x)
		find.Check(a.l)
		find.Append(a.l, x)
		find.Changed(a.l, number(), number())
	}
}

// R3: arguments are neither changed nor shared, results do not share memory, and nil is as good as empty.
func TestMemory(t *testing.T) {
	a, kept := anAsked(t), anAsked(t)
	a.list = []int{3}
	for _, c := range calls() {
		c.do(a)
	}
	x := read(t, "9 20 20 joined 30 40")[0]
	longer, e := find.Append(a.l, x)
	counts, f := find.Counting(longer, 20)
	if e != api.OK || f != api.OK {
		t.Fatalf("Append: error %d; Counting: error %d", e, f)
	}
	for _, l := range [][]api.Report{longer, counts} {
		l[0].Id = 99
		l[3].Parts[0] = 99
		l[6].Parts[0] = 99
	}
	if !reflect.DeepEqual(a.l, kept.l) || !slices.Equal(x.Parts, []int{30, 40}) || !slices.Equal(a.list, []int{3}) {
		t.Errorf("arguments were changed: %+v, %+v", a.l, x)
	}
	longer, _ = find.Append(a.l, x)
	counts, _ = find.Counting(longer, 20)
	clear(counts[3].Parts[:cap(counts[3].Parts)])
	if longer[3].Parts[0] != 31 || counts[6].Parts[0] != 30 {
		t.Error("Counting shares memory")
	}
	for _, upper := range []bool{false, true} {
		_, weights, side, _ := find.Bound(a.l, 14, 31, upper)
		again := slices.Clone(side)
		clear(weights[:cap(weights)])
		if !slices.Equal(side, again) {
			t.Error("Bound: results share memory")
		}
	}
	for _, none := range [][]api.Report{nil, {}} {
		a := asked{l: none, known: 5, parcel: 10, other: 10}
		for _, c := range calls() {
			want := api.OK
			if c.parcels > 0 {
				want = api.ErrParcel
			}
			c.check(t, a, want)
		}
		if i, e := find.Check(none); i != 0 || e != api.OK {
			t.Errorf("Check of nothing: %d, error %d", i, e)
		}
		if l, e := find.Append(none, aFound); len(l) != 1 || e != api.OK {
			t.Errorf("Append to nothing: %v, error %d", l, e)
		}
	}
	for _, none := range [][]int{nil, {}} {
		if is, e := find.CheckWeights(nil, 0, none); !is || e != api.OK {
			t.Errorf("CheckWeights of nothing: %v, error %d", is, e)
		}
		if is, e := find.CheckSide(a.l, 14, 10, true, 60, none); !is || e != api.OK {
			t.Errorf("CheckSide of nothing: %v, error %d", is, e)
		}
		if is, e := find.CheckChain(a.l, 14, 10, 10, none); !is || e != api.OK {
			t.Errorf("CheckChain of nothing: %v, error %d", is, e)
		}
	}
}
