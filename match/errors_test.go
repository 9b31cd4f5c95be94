package match_test

import (
	"math"
	"math/rand/v2"
	"reflect"
	"slices"
	"testing"

	"lagan/api"
	"lagan/match"
)

// asked is all that a function can be asked of a board.
type asked struct {
	b          api.Board
	find, slot int
	list       []int
}

// call is a function of a board that returns an error.
type call struct {
	name string
	has  string // letters: f of a find, s of a slot, l of a list of slots, h: it needs an assignment
	do   func(a asked) (results []any, e api.Errno)
}

func calls() []call {
	return []call{
		{"Assign", "", func(a asked) ([]any, api.Errno) {
			l, is, e := match.Assign(a.b)
			return []any{len(l), is}, e
		}},
		{"Meets", "", func(a asked) ([]any, api.Errno) {
			is, e := match.Meets(a.b, a.list)
			return []any{is}, e
		}},
		{"Hall", "", func(a asked) ([]any, api.Errno) {
			l, is, e := match.Hall(a.b)
			return []any{len(l), is}, e
		}},
		{"CheckHall", "", func(a asked) ([]any, api.Errno) {
			is, e := match.CheckHall(a.b, a.list)
			return []any{is}, e
		}},
		{"May", "fsh", func(a asked) ([]any, api.Errno) {
			is, e := match.May(a.b, a.find, a.slot)
			return []any{is}, e
		}},
		{"Through", "fsh", func(a asked) ([]any, api.Errno) {
			l, is, e := match.Through(a.b, a.find, a.slot)
			return []any{len(l), is}, e
		}},
		{"Refuse", "fsh", func(a asked) ([]any, api.Errno) {
			l, is, e := match.Refuse(a.b, a.find, a.slot)
			return []any{len(l), is}, e
		}},
		{"CheckRefuse", "fs", func(a asked) ([]any, api.Errno) {
			is, e := match.CheckRefuse(a.b, a.find, a.slot, a.list)
			return []any{is}, e
		}},
		{"Chances", "h", func(a asked) ([]any, api.Errno) {
			l, e := match.Chances(a.b)
			return []any{len(l)}, e
		}},
		{"Must", "h", func(a asked) ([]any, api.Errno) {
			l, e := match.Must(a.b)
			return []any{len(l)}, e
		}},
		{"Within", "flh", func(a asked) ([]any, api.Errno) {
			is, e := match.Within(a.b, a.find, a.list)
			return []any{is}, e
		}},
		{"Load", "sh", func(a asked) ([]any, api.Errno) {
			low, high, e := match.Load(a.b, a.slot)
			return []any{low, high}, e
		}},
		{"Nobody", "", func(a asked) ([]any, api.Errno) {
			l, e := match.Nobody(a.b)
			return []any{len(l)}, e
		}},
		{"Without", "f", func(a asked) ([]any, api.Errno) {
			b, e := match.Without(a.b, a.find)
			return []any{len(b.Finds), len(b.Slots), len(b.Fits)}, e
		}},
		{"Barred", "fs", func(a asked) ([]any, api.Errno) {
			b, e := match.Barred(a.b, a.find, a.slot)
			return []any{len(b.Finds), len(b.Slots), len(b.Fits)}, e
		}},
		{"Fixed", "fs", func(a asked) ([]any, api.Errno) {
			b, e := match.Fixed(a.b, a.find, a.slot)
			return []any{len(b.Finds), len(b.Slots), len(b.Fits)}, e
		}},
	}
}

func (c call) hasOne(letter byte) bool { return slices.Contains([]byte(c.has), letter) }

// check holds a call against an error, beside which there is nothing.
func (c call) check(t testing.TB, a asked, want api.Errno) {
	t.Helper()
	results, e := c.do(a)
	if e != want {
		t.Errorf("%s: error %d, want %d: %+v", c.name, e, want, a)
	}
	for _, r := range results {
		if e != api.OK && !reflect.ValueOf(r).IsZero() {
			t.Errorf("%s: %v beside the error %d", c.name, r, e)
		}
	}
}

// anAsked is one that all functions answer.
func anAsked() asked { return asked{boardC(), 2, 1, []int{0, 1, 2}} }

// spoiler makes an argument wrong; they stand in the order of the checks.
type spoiler struct {
	letter byte // b for the board
	want   api.Errno
	spoil  func(a *asked)
}

func spoilers() []spoiler {
	out := []spoiler{
		{'b', api.ErrLimit, func(a *asked) { a.b = largeBoard(61, 3) }},
		{'b', api.ErrLimit, func(a *asked) { a.b = largeBoard(3, 201) }},
		{'b', api.ErrArg, func(a *asked) { a.b.Finds[0] = 9 }},
		{'b', api.ErrArg, func(a *asked) { a.b.Slots[2].Pieces = 21 }},
		{'b', api.ErrArg, func(a *asked) { a.b.Slots[2].Pack = 2 }},
		{'b', api.ErrArg, func(a *asked) { a.b.Fits = a.b.Fits[:2] }},
		{'b', api.ErrArg, func(a *asked) { a.b.Fits[1] = []int{1, 0} }},
		{'b', api.ErrArg, func(a *asked) { a.b.Fits[1] = []int{3} }},
	}
	for _, n := range []int{-1, 3, math.MaxInt, math.MinInt} {
		out = append(out, spoiler{'f', api.ErrArg, func(a *asked) { a.find = n }}, spoiler{'s', api.ErrArg, func(a *asked) { a.slot = n }},
			spoiler{'l', api.ErrArg, func(a *asked) { a.list = []int{0, n} }})
	}
	for _, l := range [][]int{{1, 0}, {1, 1}, {0, 1, 1}, {-1, 0}, {2, 3}} {
		out = append(out, spoiler{'l', api.ErrArg, func(a *asked) { a.list = l }})
	}
	return append(out, spoiler{'h', api.ErrHall, func(a *asked) { a.b.Fits = [][]int{{1}, {1}, {0, 1, 2}} }})
}

// P4.1: each error, and of two errors the one that is checked first.
func TestErrors(t *testing.T) {
	all := spoilers()
	for _, c := range calls() {
		c.check(t, anAsked(), api.OK)
		for i, first := range all {
			for _, second := range all[i:] {
				if first.letter == second.letter && reflect.ValueOf(first.spoil).Pointer() != reflect.ValueOf(second.spoil).Pointer() {
					continue
				}
				a, want := anAsked(), api.OK
				second.spoil(&a)
				first.spoil(&a)
				for _, s := range []spoiler{second, first} {
					if c.hasOne(s.letter) || s.letter == 'b' {
						want = s.want
					}
				}
				c.check(t, a, want)
			}
		}
	}
}

// P4.1, D10: ErrNone comes last, and needs no assignment.
func TestErrNone(t *testing.T) {
	for _, b := range []api.Board{boardB(), boardD()} {
		for _, c := range calls() {
			if c.name == "Barred" || c.name == "Fixed" {
				c.check(t, asked{b: b, find: 0, slot: 1}, api.ErrNone)
				c.check(t, asked{b: b, find: 2, slot: 1}, api.OK)
				c.check(t, asked{b: b, find: 3, slot: 1}, api.ErrArg)
				c.check(t, asked{b: b, find: 0, slot: 3}, api.ErrArg)
			}
		}
	}
	// Without an assignment all is as before but for those that need one.
	for _, c := range calls() {
		a, want := asked{boardD(), 2, 1, []int{0, 1}}, api.OK
		if c.hasOne('h') {
			want = api.ErrHall
		}
		c.check(t, a, want)
	}
}

// wrong spoils a part of what Why and Build are asked.
type wrong struct {
	part  string
	want  api.Errno
	spoil func(x *records)
}

// wrongs stand in the order of the checks.
func wrongs() []wrong {
	return []wrong{
		{"season", api.ErrArg, func(x *records) { x.c.Sea.Bands = 0 }},
		{"season", api.ErrLimit, func(x *records) { x.c.Losses = losses(21) }},
		{"season", api.ErrArg, func(x *records) { x.c.Losses = append(losses(1), losses(1)...) }},
		{"season", api.ErrArg, func(x *records) { x.c.Floats = make([]api.Float, 1) }},
		{"winds", api.ErrArg, func(x *records) { x.winds = []api.Wind{{Id: 1, Known: -1}} }},
		{"winds", api.ErrTwice, func(x *records) { x.winds = append(slices.Clone(x.winds), x.winds[1]) }},
		{"winds", api.ErrTime, func(x *records) { x.winds = append(slices.Clone(x.winds), api.Wind{Id: 9}) }},
		{"winds", api.ErrNone, func(x *records) { x.winds = append(slices.Clone(x.winds), api.Wind{Id: 9, Known: 9, Of: 8}) }},
		{"papers", api.ErrArg, func(x *records) { x.papers = make([]api.Paper, 1) }},
		{"papers", api.ErrTwice, func(x *records) { x.papers = append(slices.Clone(x.papers), x.papers[1]) }},
		{"papers", api.ErrNone, func(x *records) {
			x.papers = append(slices.Clone(x.papers), api.Paper{Id: 9, Known: 9, Kind: api.PaperVoid, Of: 8})
		}},
		{"papers", api.ErrLimit, func(x *records) { x.papers = append(manyPapers(300), api.Paper{}) }},
		{"reports", api.ErrArg, func(x *records) { x.reports = make([]api.Report, 1) }},
		{"reports", api.ErrTime, func(x *records) {
			x.reports = append(slices.Clone(x.reports), api.Report{Id: 9, Known: 1, Kind: api.ReportWeighed, Parcel: 10, Weight: api.Span{Low: 1, High: 1}})
		}},
		{"reports", api.ErrParcel, func(x *records) {
			x.reports = append(slices.Clone(x.reports), api.Report{Id: 9, Known: 9, Kind: api.ReportWeighed, Parcel: 90, Weight: api.Span{Low: 1, High: 1}})
		}},
		{"reports", api.ErrNone, func(x *records) {
			x.reports = append(slices.Clone(x.reports), api.Report{Id: 9, Known: 9, Kind: api.ReportVoid, Of: 8})
		}},
	}
}

// manyPapers returns so many papers of one package.
func manyPapers(n int) []api.Paper {
	var out []api.Paper
	for i := range n {
		out = append(out, api.Paper{Id: i + 1, Kind: api.PaperPackage, Loss: 1, Pack: 1, Mark: "?", Goods: "wool", Weight: api.Span{Low: 1, High: 9}, Pieces: 1, Owner: 1})
	}
	return out
}

// P4.1, D2: the errors of Why and Build, and of two errors the one that is checked first.
func TestErrorsOfRecords(t *testing.T) {
	all := wrongs()
	for i, first := range all {
		for j, second := range all[i:] {
			if j > 0 && first.part == second.part {
				continue // one of them would undo the other one
			}
			x := sample(t)
			second.spoil(&x)
			first.spoil(&x)
			for _, known := range []int{5, -1} {
				if b, e := x.build(known); e != first.want || len(b.Finds)+len(b.Slots)+len(b.Fits) > 0 {
					t.Errorf("Build with wrong %s: %+v, error %d, want %d", first.part, b, e, first.want)
				}
				for _, parcel := range []int{10, 11} {
					if why, e := x.why(known, parcel, 1, 1); why != 0 || e != first.want {
						t.Errorf("Why with wrong %s: %d, error %d, want %d", first.part, why, e, first.want)
					}
				}
			}
		}
	}
	x := manyFinds(t, 61, 1)
	x.reports = append(x.reports, x.reports[0])
	if _, e := x.build(300); e != api.ErrTwice {
		t.Errorf("Build of too many finds, one of them twice: error %d", e)
	}
	if why, e := (records{}).why(0, 10, 1, 1); why != 0 || e != api.ErrArg {
		t.Errorf("Why of nothing: %d, error %d", why, e)
	}
	alone := records{c: api.Season{Sea: seaS(t)}}
	if b, e := alone.build(0); e != api.OK || len(b.Finds)+len(b.Slots)+len(b.Fits) > 0 {
		t.Errorf("Build of a sea alone: %+v, error %d", b, e)
	}
	alone.winds, alone.papers, alone.reports, alone.c.Losses, alone.c.Floats = []api.Wind{}, []api.Paper{}, []api.Report{}, []api.Loss{}, []api.Float{}
	if b, e := alone.build(0); e != api.OK || len(b.Finds)+len(b.Slots)+len(b.Fits) > 0 {
		t.Errorf("Build of empty lists: %+v, error %d", b, e)
	}
}

// R1: whatever is asked, there is an answer or an error.
func TestWhateverIsAsked(t *testing.T) {
	t.Parallel()
	r := rand.New(rand.NewPCG(4, 12))
	number := func() int {
		return []int{0, 1, 2, 3, 4, 9, 10, 20, 21, 60, 200, 201, 10000007, 10000008, -1, -2, math.MaxInt, math.MinInt}[r.IntN(18)]
	}
	numbers := func() []int {
		var out []int
		for range r.IntN(6) {
			out = append(out, number())
		}
		return out
	}
	for range 20000 {
		a := asked{smallBoard(r), number(), number(), numbers()}
		switch r.IntN(6) {
		case 0:
			a.b.Finds = numbers()
		case 1:
			a.b.Slots = append(a.b.Slots, api.Slot{Loss: number(), Pack: number(), Pieces: number()})
		case 2:
			a.b.Fits = append(a.b.Fits, numbers())
		case 3:
			if len(a.b.Fits) > 0 {
				a.b.Fits[r.IntN(len(a.b.Fits))] = numbers()
			}
		}
		for _, c := range calls() {
			results, e := c.do(a)
			if e == api.OK {
				continue
			}
			for _, x := range results {
				if !reflect.ValueOf(x).IsZero() {
					t.Fatalf("%s: %v beside the error %d: %+v", c.name, x, e, a)
				}
			}
		}
	}
	x := sample(t)
	for range 300 {
		y := x
		y.winds = append(slices.Clone(x.winds), api.Wind{Id: number(), Known: number(), From: number(), Until: number(), Of: number()})
		y.papers = append(slices.Clone(x.papers), api.Paper{Id: number(), Known: number(), Kind: uint8(r.IntN(5)), Loss: number(), Pack: number(), Of: number()})
		y.c.Losses = append(slices.Clone(x.c.Losses), api.Loss{Id: number(), Hours: api.Range{Low: number(), High: number()}})
		for _, y := range []records{x, y} {
			y.why(number(), number(), number(), number())
			y.build(number())
		}
	}
}

// copyOf returns a board that shares no memory with another one.
func copyOf(b api.Board) api.Board {
	c := api.Board{Finds: slices.Clone(b.Finds), Slots: slices.Clone(b.Slots)}
	for _, fits := range b.Fits {
		c.Fits = append(c.Fits, slices.Clone(fits))
	}
	return c
}

// wipe fills all memory of a board, also what lies behind its lists.
func wipe(b api.Board) {
	for _, fits := range b.Fits[:cap(b.Fits)] {
		clear(fits[:cap(fits)])
	}
	clear(b.Fits[:cap(b.Fits)])
	clear(b.Finds[:cap(b.Finds)])
	clear(b.Slots[:cap(b.Slots)])
}

// R3: arguments are neither changed nor shared, and results do not share memory.
func TestMemory(t *testing.T) {
	r := rand.New(rand.NewPCG(4, 13))
	for range 300 {
		b := randomBoard(r, 1+r.IntN(6), 1+r.IntN(6), 3)
		kept := copyOf(b)
		a := asked{b, r.IntN(len(b.Finds)), r.IntN(len(b.Slots)), []int{0}}
		for _, c := range calls() {
			c.do(a)
		}
		sameBoard(t, "an argument", b, kept)
		same(t, "a list", a.list, []int{0})
		for _, other := range []func(api.Board) (api.Board, api.Errno){
			func(b api.Board) (api.Board, api.Errno) { return match.Without(b, a.find) },
			func(b api.Board) (api.Board, api.Errno) { return match.Barred(b, a.find, a.slot) },
			func(b api.Board) (api.Board, api.Errno) { return match.Fixed(b, a.find, a.slot) },
		} {
			c, e := other(b)
			if e != api.OK {
				continue
			}
			wipe(c)
			sameBoard(t, "an argument", b, kept)
			c, _ = other(b)
			for i := range c.Fits {
				again := copyOf(c)
				clear(c.Fits[i][:cap(c.Fits[i])])
				again.Fits[i] = c.Fits[i]
				sameBoard(t, "the lists of a result", c, again)
			}
		}
		checkSharing(t, b)
	}
}

// checkSharing shows that the lists of Chances share no memory, and that results do not change what comes behind.
func checkSharing(t *testing.T, b api.Board) {
	t.Helper()
	chances, e := match.Chances(b)
	if e != api.OK {
		return
	}
	kept := slices.Clone(chances)
	for i := range kept {
		kept[i] = slices.Clone(kept[i])
	}
	for i := range chances {
		clear(chances[i][:cap(chances[i])])
		sameLists(t, "Chances behind a change", chances[i+1:], kept[i+1:])
	}
	l, _, _ := match.Assign(b)
	first := slices.Clone(l)
	clear(l[:cap(l)])
	l, _, _ = match.Assign(b)
	same(t, "Assign again", l, first)
	chances, _ = match.Chances(b)
	sameLists(t, "Chances again", chances, kept)
}

// R3: what Why and Build are asked is not changed, and the board is new memory.
func TestMemoryOfRecords(t *testing.T) {
	x, kept := manyFinds(t, 5, 5), manyFinds(t, 5, 5)
	x = x.with(t, windsL()...)
	kept = kept.with(t, windsL()...)
	b, e := x.build(300)
	fine(t, "Build", e)
	for i := range b.Fits {
		clear(b.Fits[i][:cap(b.Fits[i])])
		for _, fits := range b.Fits[i+1:] {
			same(t, "Build: fits", fits, []int{0, 1, 2, 3, 4})
		}
	}
	wipe(b)
	x.why(300, 10, 1, 1)
	if !reflect.DeepEqual(x, kept) {
		t.Errorf("arguments were changed: %+v", x)
	}
}
