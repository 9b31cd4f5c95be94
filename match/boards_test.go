package match_test

import (
	"math"
	"math/rand/v2"
	"slices"
	"testing"

	"lagan/api"
	"lagan/match"
)

// largeBoard returns a board with so many finds and slots, all of which fit.
func largeBoard(finds, slots int) api.Board {
	var b api.Board
	var all []int
	for i := range slots {
		b.Slots = append(b.Slots, api.Slot{Loss: 1 + i/200, Pack: 1 + i%200, Pieces: 1})
		all = append(all, i)
	}
	for i := range finds {
		b.Finds = append(b.Finds, 10+i)
		b.Fits = append(b.Fits, slices.Clone(all))
	}
	return b
}

// P4.1, D3: each error of a board, and what is as said.
func TestCheckBoard(t *testing.T) {
	for _, c := range []struct {
		what   string
		change func(b *api.Board)
		want   api.Errno
	}{
		{"as it is", func(b *api.Board) {}, api.OK},
		{"nothing", func(b *api.Board) { *b = api.Board{} }, api.OK},
		{"empty lists", func(b *api.Board) { *b = api.Board{Finds: []int{}, Slots: []api.Slot{}, Fits: [][]int{}} }, api.OK},
		{"no finds", func(b *api.Board) { b.Finds, b.Fits = nil, nil }, api.OK},
		{"no slots", func(b *api.Board) { b.Slots, b.Fits = nil, make([][]int, 3) }, api.OK},
		{"no slots, but fits", func(b *api.Board) { b.Slots = nil }, api.ErrArg},
		{"60 finds", func(b *api.Board) { *b = largeBoard(60, 3) }, api.OK},
		{"61 finds", func(b *api.Board) { *b = largeBoard(61, 3) }, api.ErrLimit},
		{"200 slots", func(b *api.Board) { *b = largeBoard(2, 200) }, api.OK},
		{"201 slots", func(b *api.Board) { *b = largeBoard(2, 201) }, api.ErrLimit},
		{"61 zero finds", func(b *api.Board) { b.Finds = make([]int, 61) }, api.ErrLimit},
		{"201 zero slots", func(b *api.Board) { b.Slots = make([]api.Slot, 201) }, api.ErrLimit},
		{"61 fits", func(b *api.Board) { b.Fits = make([][]int, 61) }, api.ErrArg},
		{"find 9", func(b *api.Board) { b.Finds[0] = 9 }, api.ErrArg},
		{"find 0", func(b *api.Board) { b.Finds[0] = 0 }, api.ErrArg},
		{"find -10", func(b *api.Board) { b.Finds[0] = -10 }, api.ErrArg},
		{"find 11", func(b *api.Board) { b.Finds[0] = 11 }, api.OK},
		{"find 10000007", func(b *api.Board) { b.Finds[2] = 10000007 }, api.OK},
		{"find 10000008", func(b *api.Board) { b.Finds[2] = 10000008 }, api.ErrArg},
		{"the greatest find", func(b *api.Board) { b.Finds[2] = math.MaxInt }, api.ErrArg},
		{"equal finds", func(b *api.Board) { b.Finds[1] = 10 }, api.ErrArg},
		{"descending finds", func(b *api.Board) { b.Finds[2] = 19 }, api.ErrArg},
		{"loss 0", func(b *api.Board) { b.Slots[0].Loss = 0 }, api.ErrArg},
		{"loss 20", func(b *api.Board) { b.Slots[2].Loss = 20 }, api.OK},
		{"loss 21", func(b *api.Board) { b.Slots[2].Loss = 21 }, api.ErrArg},
		{"pack 0", func(b *api.Board) { b.Slots[0].Pack = 0 }, api.ErrArg},
		{"pack 200", func(b *api.Board) { b.Slots[2].Pack = 200 }, api.OK},
		{"pack 201", func(b *api.Board) { b.Slots[2].Pack = 201 }, api.ErrArg},
		{"pieces 0", func(b *api.Board) { b.Slots[1].Pieces = 0 }, api.ErrArg},
		{"pieces -1", func(b *api.Board) { b.Slots[1].Pieces = -1 }, api.ErrArg},
		{"pieces 20", func(b *api.Board) { b.Slots[1].Pieces = 20 }, api.OK},
		{"pieces 21", func(b *api.Board) { b.Slots[1].Pieces = 21 }, api.ErrArg},
		{"equal slots", func(b *api.Board) { b.Slots[1].Pack = 1 }, api.ErrArg},
		{"equal slots, different pieces", func(b *api.Board) { b.Slots[2] = api.Slot{Loss: 1, Pack: 2, Pieces: 9} }, api.ErrArg},
		{"descending packs", func(b *api.Board) { b.Slots[0].Pack = 9 }, api.ErrArg},
		{"descending losses", func(b *api.Board) { b.Slots[0].Loss = 2 }, api.ErrArg},
		{"a pack again in another loss", func(b *api.Board) { b.Slots[2] = api.Slot{Loss: 2, Pack: 1, Pieces: 1} }, api.OK},
		{"too few fits", func(b *api.Board) { b.Fits = b.Fits[:2] }, api.ErrArg},
		{"too many fits", func(b *api.Board) { b.Fits = append(b.Fits, nil) }, api.ErrArg},
		{"no fits", func(b *api.Board) { b.Fits = nil }, api.ErrArg},
		{"a find that fits none", func(b *api.Board) { b.Fits[1] = nil }, api.OK},
		{"fit -1", func(b *api.Board) { b.Fits[0] = []int{-1} }, api.ErrArg},
		{"fit 2", func(b *api.Board) { b.Fits[2] = []int{2} }, api.OK},
		{"fit 3", func(b *api.Board) { b.Fits[2] = []int{0, 3} }, api.ErrArg},
		{"equal fits", func(b *api.Board) { b.Fits[2] = []int{1, 1} }, api.ErrArg},
		{"descending fits", func(b *api.Board) { b.Fits[2] = []int{2, 1} }, api.ErrArg},
		{"a fit of any number", func(b *api.Board) { b.Fits[1] = []int{math.MinInt} }, api.ErrArg},
	} {
		b := boardB()
		c.change(&b)
		if e := match.CheckBoard(b); e != c.want {
			t.Errorf("%s: error %d, want %d", c.what, e, c.want)
		}
	}
}

// P4.1, D10: each find less, each slot barred and each one fixed, of the boards of the examples and of random ones.
func TestOtherBoards(t *testing.T) {
	r := rand.New(rand.NewPCG(4, 1))
	boards := []api.Board{{}, boardB(), boardC(), boardD()}
	for range 300 {
		boards = append(boards, smallBoard(r))
	}
	for _, b := range boards {
		for f := range b.Finds {
			less, e := match.Without(b, f)
			fine(t, "Without", e)
			fine(t, "CheckBoard", match.CheckBoard(less))
			want := api.Board{Slots: b.Slots}
			for i := range b.Finds {
				if i != f {
					want.Finds = append(want.Finds, b.Finds[i])
					want.Fits = append(want.Fits, b.Fits[i])
				}
			}
			sameBoard(t, "Without", less, want)
			for slot := range b.Slots {
				checkNarrowed(t, b, f, slot)
			}
		}
	}
}

func checkNarrowed(t *testing.T, b api.Board, f, slot int) {
	t.Helper()
	barred, e := match.Barred(b, f, slot)
	fixed, g := match.Fixed(b, f, slot)
	if !slices.Contains(b.Fits[f], slot) {
		if e != api.ErrNone || g != api.ErrNone {
			t.Errorf("Barred, Fixed: errors %d, %d", e, g)
		}
		sameBoard(t, "Barred", barred, api.Board{})
		sameBoard(t, "Fixed", fixed, api.Board{})
		return
	}
	fine(t, "Barred", e)
	fine(t, "Fixed", g)
	want := api.Board{Finds: b.Finds, Slots: b.Slots, Fits: slices.Clone(b.Fits)}
	want.Fits[f] = nil
	for _, s := range b.Fits[f] {
		if s != slot {
			want.Fits[f] = append(want.Fits[f], s)
		}
	}
	sameBoard(t, "Barred", barred, want)
	want.Fits[f] = []int{slot}
	sameBoard(t, "Fixed", fixed, want)
}

// P4.1, D9: the finds that fit no slot, also where there is no assignment.
func TestNobody(t *testing.T) {
	d := boardWith([]int{1}, nil, []int{0}, []int{}, []int{0}, nil)
	for _, c := range []struct {
		b    api.Board
		want []int
	}{{api.Board{}, nil}, {boardB(), nil}, {d, []int{0, 2, 4}}, {boardWith(nil, nil, nil), []int{0, 1}}} {
		got, e := match.Nobody(c.b)
		fine(t, "Nobody", e)
		same(t, "Nobody", got, c.want)
	}
}
