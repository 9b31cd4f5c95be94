package drift_test

import (
	"math"
	"math/rand/v2"
	"reflect"
	"slices"
	"testing"

	"lagan/api"
	"lagan/drift"
)

// asked is all that a function can be asked.
type asked struct {
	s     api.Sea
	l     []api.Wind
	known int
	x     api.Loss
	float uint8
	at    api.Place
	hour  int
}

// call is a function that returns an error: which arguments it has, and whether it returned nothing beside.
type call struct {
	name string
	has  string // letters: s of a sea, l of a log, x of a loss, f of a float, p of a place, h of an hour
	do   func(a asked) (results []any, e api.Errno)
}

func calls() []call {
	return []call{
		{"Counting", "l", func(a asked) ([]any, api.Errno) {
			r, e := drift.Counting(a.l, a.known)
			return []any{len(r)}, e
		}},
		{"WindAt", "lh", func(a asked) ([]any, api.Errno) {
			r, is, e := drift.WindAt(a.l, a.known, a.hour)
			return []any{r, is}, e
		}},
		{"Moves", "slfph", func(a asked) ([]any, api.Errno) {
			r, e := drift.Moves(a.s, a.l, a.known, a.float, a.at, a.hour)
			return []any{len(r)}, e
		}},
		{"Before", "slfph", func(a asked) ([]any, api.Errno) {
			r, e := drift.Before(a.s, a.l, a.known, a.float, a.at, a.hour, 1)
			return []any{len(r)}, e
		}},
		{"Before, no hour", "slfph", func(a asked) ([]any, api.Errno) {
			r, e := drift.Before(a.s, a.l, a.known, a.float, a.at, a.hour, 0)
			return []any{len(r)}, e
		}},
		{"Reach", "slxfh", func(a asked) ([]any, api.Errno) {
			r, e := drift.Reach(a.s, a.l, a.known, a.x, a.float, a.hour)
			return []any{len(r)}, e
		}},
		{"Beaches", "slxfh", func(a asked) ([]any, api.Errno) {
			r, e := drift.Beaches(a.s, a.l, a.known, a.x, a.float, a.hour)
			return []any{len(r)}, e
		}},
		{"Landings", "slxfh", func(a asked) ([]any, api.Errno) {
			r, e := drift.Landings(a.s, a.l, a.known, a.x, a.float, a.hour)
			return []any{len(r)}, e
		}},
		{"Touched", "slxfh", func(a asked) ([]any, api.Errno) {
			r, e := drift.Touched(a.s, a.l, a.known, a.known+1, a.x, a.float, a.hour)
			return []any{len(r)}, e
		}},
		{"CourseTo", "slxfph", func(a asked) ([]any, api.Errno) {
			r, is, e := drift.CourseTo(a.s, a.l, a.known, a.x, a.float, a.at, a.hour)
			return []any{r.From, len(r.Places), is}, e
		}},
		{"CheckCourse", "slxfph", func(a asked) ([]any, api.Errno) {
			is, e := drift.CheckCourse(a.s, a.l, a.known, a.x, a.float, a.at, a.hour, api.Course{From: a.hour, Places: []api.Place{a.at}})
			return []any{is}, e
		}},
		{"BarTo", "slxfph", func(a asked) ([]any, api.Errno) {
			r, is, e := drift.BarTo(a.s, a.l, a.known, a.x, a.float, a.at, a.hour)
			return []any{len(r.Sets), is}, e
		}},
		{"CheckBar", "slxfph", func(a asked) ([]any, api.Errno) {
			is, e := drift.CheckBar(a.s, a.l, a.known, a.x, a.float, a.at, a.hour, api.Bar{Sets: [][]api.Place{nil, nil}})
			return []any{is}, e
		}},
		{"Lineage", "slxfph", func(a asked) ([]any, api.Errno) {
			r, is, e := drift.Lineage(a.s, a.l, a.known, a.x, a.float, a.at, a.hour)
			return []any{len(r), is}, e
		}},
		{"Which", "slxfph", func(a asked) ([]any, api.Errno) {
			r, e := drift.Which(a.s, a.l, a.known, []api.Loss{a.x}, a.float, a.at, a.hour)
			return []any{len(r)}, e
		}},
	}
}

func (c call) hasOne(letter byte) bool { return slices.Contains([]byte(c.has), letter) }

// spoiler makes an argument wrong; they stand in the order of the checks.
type spoiler struct {
	letter byte
	want   api.Errno
	spoil  func(a *asked)
}

func spoilers() []spoiler {
	return []spoiler{
		{'s', api.ErrArg, func(a *asked) { a.s.Bands = 7 }},
		{'s', api.ErrArg, func(a *asked) { a.s.Heights = nil }},
		{'s', api.ErrArg, func(a *asked) { a.s = api.Sea{} }},
		{'l', api.ErrTwice, func(a *asked) { a.l = append(slices.Clone(a.l), a.l[0]) }},
		{'l', api.ErrLimit, func(a *asked) { a.l = manyWinds(201) }},
		{'l', api.ErrNone, func(a *asked) { a.l = append(slices.Clone(a.l), api.Wind{Id: 9, Known: 9, Of: 9}) }},
		{'l', api.ErrTime, func(a *asked) { a.l = append(slices.Clone(a.l), api.Wind{Id: 9}) }},
		{'x', api.ErrArg, func(a *asked) { a.x.Id = 0 }},
		{'x', api.ErrArg, func(a *asked) { a.x.Cells.High = a.s.Cells }},
		{'x', api.ErrArg, func(a *asked) { a.x.Hours.High = math.MaxInt }},
		{'x', api.ErrArg, func(a *asked) { a.x = api.Loss{} }},
		{'f', api.ErrArg, func(a *asked) { a.float = 0 }},
		{'f', api.ErrArg, func(a *asked) { a.float = 3 }},
		{'f', api.ErrArg, func(a *asked) { a.float = 255 }},
		{'p', api.ErrSea, func(a *asked) { a.at.Cell = 5 }},
		{'p', api.ErrSea, func(a *asked) { a.at.Cell = -1 }},
		{'p', api.ErrSea, func(a *asked) { a.at.Band = 3 }},
		{'p', api.ErrSea, func(a *asked) { a.at.Band = -1 }},
		{'p', api.ErrSea, func(a *asked) { a.at = api.Place{Cell: math.MaxInt, Band: math.MinInt} }},
		{'h', api.ErrArg, func(a *asked) { a.hour = -1 }},
		{'h', api.ErrArg, func(a *asked) { a.hour = 1000001 }},
		{'h', api.ErrArg, func(a *asked) { a.hour = math.MaxInt }},
		{'h', api.ErrArg, func(a *asked) { a.hour = math.MinInt }},
	}
}

func anAsked(t testing.TB) asked {
	m := sample(t)
	return asked{m.s, m.l, 3, m.x, 1, api.Place{Cell: 2, Band: 2}, 1}
}

// check holds a call against an error, beside which there is nothing.
func (c call) check(t testing.TB, a asked, want api.Errno) {
	t.Helper()
	results, e := c.do(a)
	if e != want {
		t.Errorf("%s: error %d, want %d: %+v", c.name, e, want, a)
	}
	for _, r := range results {
		if e != api.OK && !reflect.ValueOf(r).IsZero() {
			t.Errorf("%s: %v beside the error %d", c.name, r, e)
		}
	}
}

// P2.1: each error, and of two errors the one that is checked first.
func TestErrors(t *testing.T) {
	all := spoilers()
	for _, c := range calls() {
		c.check(t, anAsked(t), api.OK)
		for i, first := range all {
			for _, second := range all[i:] {
				a := anAsked(t)
				first.spoil(&a)
				second.spoil(&a)
				want := api.OK
				if c.hasOne(second.letter) {
					want = second.want
				}
				if c.hasOne(first.letter) && first.letter != second.letter {
					want = first.want
				}
				// Two that spoil the same argument are of no use but where they are one.
				if first.letter != second.letter || reflect.ValueOf(first.spoil).Pointer() == reflect.ValueOf(second.spoil).Pointer() {
					c.check(t, a, want)
				}
			}
		}
	}
}

// P2.1: ErrFar comes last, and only for what is asked of one loss; an hour of knowledge may be any number.
func TestErrFar(t *testing.T) {
	for _, c := range calls() {
		for _, hours := range []api.Range{{Low: 2, High: 9}, {Low: 1000000, High: 1000000}} {
			far := func() asked {
				a := anAsked(t)
				a.x.Hours = hours
				return a
			}
			want := api.OK
			if c.hasOne('x') && c.name != "Which" {
				want = api.ErrFar
			}
			c.check(t, far(), want)
			for _, s := range spoilers() {
				a := far()
				s.spoil(&a)
				if c.hasOne(s.letter) && a.x != (api.Loss{}) {
					c.check(t, a, s.want)
				}
			}
		}
		a := anAsked(t)
		a.hour = 200
		c.check(t, a, api.OK)
		a.hour = 201
		if c.hasOne('x') && c.name != "Which" {
			c.check(t, a, api.ErrFar)
		} else {
			c.check(t, a, api.OK)
		}
		for _, known := range []int{-1, math.MinInt, math.MaxInt - 1, 1000001} {
			a := anAsked(t)
			a.known = known
			c.check(t, a, api.OK)
		}
	}
}

// R1: whatever is asked, there is an answer or an error.
func TestWhateverIsAsked(t *testing.T) {
	r := rand.New(rand.NewPCG(1, 1))
	number := func() int {
		return []int{0, 1, 2, 5, 6, 7, 30, 40, 41, 200, 201, 1000000, 1000001, -1, -3, math.MaxInt, math.MinInt}[r.IntN(17)]
	}
	for range 20000 {
		a := anAsked(t)
		for range 1 + r.IntN(3) {
			switch r.IntN(9) {
			case 0:
				a.s.Cells, a.s.Bands = number(), number()
			case 1:
				a.s.Heights = []int{number(), number()}
			case 2:
				a.s.Tides = []api.Tide{{Along: number(), Height: number()}}
			case 3:
				a.l = append(slices.Clone(a.l), api.Wind{Id: number(), Known: number(), From: number(), Until: number(), Of: number()})
			case 4:
				a.x = api.Loss{Id: number(), Cells: api.Range{Low: number(), High: number()}, Bands: api.Range{Low: number(), High: number()}, Hours: api.Range{Low: number(), High: number()}}
			case 5:
				a.float = uint8(number())
			case 6:
				a.at = api.Place{Cell: number(), Band: number()}
			case 7:
				a.hour = number()
			default:
				a.known = number()
			}
		}
		for _, c := range calls() {
			c.do(a)
		}
		drift.PrintSea(a.s)
		drift.CheckCourse(a.s, a.l, a.known, a.x, a.float, a.at, a.hour, api.Course{From: number(), Places: []api.Place{{Cell: number(), Band: number()}, a.at}})
		drift.CheckBar(a.s, a.l, a.known, a.x, a.float, a.at, a.hour, api.Bar{Sets: [][]api.Place{{{Cell: number(), Band: number()}}, {a.at}}})
		drift.Before(a.s, a.l, a.known, a.float, a.at, a.hour, number())
	}
}

// R3: arguments are neither changed nor shared, results do not share memory, and nil is as good as empty.
func TestMemory(t *testing.T) {
	a, kept := anAsked(t), anAsked(t)
	a.hour = 4
	for _, c := range calls() {
		c.do(a)
	}
	drift.PrintSea(a.s)
	b, is, _ := drift.BarTo(a.s, a.l, a.known, a.x, a.float, api.Place{Cell: 4}, a.hour)
	if !is || len(b.Sets) != 5 {
		t.Fatalf("BarTo: %v", b)
	}
	for i, list := range b.Sets {
		again, _, _ := drift.BarTo(a.s, a.l, a.known, a.x, a.float, api.Place{Cell: 4}, a.hour)
		roomy := list[:cap(list)]
		clear(roomy)
		for j := range b.Sets {
			if j > i && !slices.Equal(b.Sets[j], again.Sets[j]) {
				t.Error("BarTo: sets share memory")
			}
		}
	}
	if !reflect.DeepEqual(a.s, kept.s) || !slices.Equal(a.l, kept.l) {
		t.Error("arguments were changed")
	}
	for _, none := range [][]api.Wind{nil, {}} {
		a.l = none
		for _, c := range calls() {
			c.check(t, a, api.OK)
		}
		if i, e := drift.Check(none); i != 0 || e != api.OK {
			t.Errorf("Check of nothing: %d, error %d", i, e)
		}
	}
	for _, none := range [][]api.Loss{nil, {}} {
		if ids, e := drift.Which(a.s, a.l, 0, none, 1, a.at, 0); len(ids) > 0 || e != api.OK {
			t.Errorf("Which of nothing: %v, error %d", ids, e)
		}
	}
	late := a
	late.x.Hours = api.Range{Low: 1, High: 1}
	late.hour = 1
	for _, none := range [][]api.Place{nil, {}} {
		if is, e := drift.CheckBar(late.s, late.l, 0, late.x, 1, api.Place{}, 1, api.Bar{Sets: [][]api.Place{none}}); is || e != api.OK {
			t.Errorf("CheckBar of an empty set: %v, error %d", is, e)
		}
	}
}
