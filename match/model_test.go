package match_test

import (
	"math/rand/v2"
	"slices"
	"strings"
	"testing"

	"lagan/api"
	"lagan/cargo"
	"lagan/drift"
	"lagan/find"
	"lagan/match"
)

// The model says what chapter 4 says, as directly as possible, and slowly.

// boardWith returns a board with the finds 10, 20 and so on, and the slots (1, 1), (1, 2) and so on.
func boardWith(pieces []int, fits ...[]int) api.Board {
	b := api.Board{Fits: fits}
	for i := range fits {
		b.Finds = append(b.Finds, 10*i+10)
	}
	for i, n := range pieces {
		b.Slots = append(b.Slots, api.Slot{Loss: 1, Pack: i + 1, Pieces: n})
	}
	return b
}

// The boards of the chapter's examples.
func boardB() api.Board { return boardWith([]int{1, 1, 1}, []int{0}, []int{0, 1}, []int{0, 1, 2}) }
func boardC() api.Board { return boardWith([]int{2, 1, 1}, []int{0}, []int{0, 1}, []int{0, 1, 2}) }
func boardD() api.Board { return boardWith([]int{1, 1}, []int{0}, []int{0}, []int{0, 1}) }

// modelAssignments returns all assignments of a small board, in their order.
func modelAssignments(b api.Board) [][]int {
	var out [][]int
	var on func(l []int)
	on = func(l []int) {
		if len(l) == len(b.Finds) {
			if modelMeets(b, l) {
				out = append(out, slices.Clone(l))
			}
			return
		}
		if len(b.Fits[len(l)]) == 0 {
			on(append(l, -1))
		}
		for _, slot := range b.Fits[len(l)] {
			on(append(l, slot))
		}
	}
	on(nil)
	return out
}

func modelMeets(b api.Board, l []int) bool {
	if len(l) != len(b.Finds) {
		return false
	}
	for i, slot := range l {
		if len(b.Fits[i]) == 0 && slot != -1 || len(b.Fits[i]) > 0 && !slices.Contains(b.Fits[i], slot) {
			return false
		}
	}
	for slot, x := range b.Slots {
		if modelCount(l, slot) > x.Pieces {
			return false
		}
	}
	return true
}

func modelCount(l []int, n int) int {
	count := 0
	for _, m := range l {
		if m == n {
			count++
		}
	}
	return count
}

// modelCrowd reports whether a list is strictly ascending finds, each of which fits some slot, and returns how many
// pieces the slots have that they fit, and whether a slot is among these.
func modelCrowd(b api.Board, finds []int, slot int) (pieces int, has, is bool) {
	for i, f := range finds {
		if f < 0 || f >= len(b.Finds) || i > 0 && finds[i-1] >= f || len(b.Fits[f]) == 0 {
			return 0, false, false
		}
	}
	for s, x := range b.Slots {
		if slices.ContainsFunc(finds, func(f int) bool { return slices.Contains(b.Fits[f], s) }) {
			pieces += x.Pieces
			has = has || s == slot
		}
	}
	return pieces, has, true
}

func modelIsHall(b api.Board, finds []int) bool {
	pieces, _, is := modelCrowd(b, finds, -1)
	return is && pieces < len(finds)
}

func modelIsDenial(b api.Board, f, slot int, finds []int) bool {
	if !slices.Contains(b.Fits[f], slot) {
		return len(finds) == 0
	}
	pieces, has, is := modelCrowd(b, finds, slot)
	if has {
		pieces--
	}
	return is && !slices.Contains(finds, f) && pieces < len(finds)
}

// subsets are all strictly ascending lists of numbers below n.
func subsets(n int) [][]int {
	out := [][]int{nil}
	for i := range n {
		for _, l := range out {
			out = append(out, append(slices.Clone(l), i))
		}
	}
	return out
}

// randomBoard returns a board with at most so many finds and slots, whose pieces are few.
func randomBoard(r *rand.Rand, finds, slots, pieces int) api.Board {
	var b api.Board
	for id := 10; len(b.Finds) < finds; id += 1 + r.IntN(30) {
		b.Finds = append(b.Finds, id)
	}
	for loss, pack := 1, 1; len(b.Slots) < slots; pack += 1 + r.IntN(3) {
		if pack > 150 || r.IntN(20) == 0 {
			loss, pack = loss+1, 1
		}
		b.Slots = append(b.Slots, api.Slot{Loss: loss, Pack: pack, Pieces: 1 + r.IntN(pieces)})
	}
	dense := []float64{0.1, 0.3, 0.5, 0.8}[r.IntN(4)]
	for range b.Finds {
		var fits []int
		for slot := range b.Slots {
			if r.Float64() < dense {
				fits = append(fits, slot)
			}
		}
		b.Fits = append(b.Fits, fits)
	}
	return b
}

func smallBoard(r *rand.Rand) api.Board {
	return randomBoard(r, r.IntN(7), r.IntN(6), 1+r.IntN(3))
}

// records are all that is known of a season.
type records struct {
	c       api.Season
	winds   []api.Wind
	papers  []api.Paper
	reports []api.Report
}

func (x records) why(known, parcel, loss, pack int) (uint8, api.Errno) {
	return match.Why(x.c, x.winds, x.papers, x.reports, known, parcel, loss, pack)
}

func (x records) build(known int) (api.Board, api.Errno) {
	return match.Build(x.c, x.winds, x.papers, x.reports, known)
}

// with returns records with further lines: of a wind, a paper or a report.
func (x records) with(t testing.TB, lines ...string) records {
	t.Helper()
	for _, line := range lines {
		e := api.ErrForm
		if w, f := drift.Read(line); f == api.OK && strings.Contains(line, "wind") {
			x.winds, e = drift.Append(x.winds, w)
		} else if p, f := cargo.Read(line); f == api.OK && !strings.Contains(line, "void") {
			x.papers, e = cargo.Append(x.papers, p)
		} else if r, f := find.Read(line); f == api.OK {
			x.reports, e = find.Append(x.reports, r)
		}
		if e != api.OK {
			t.Fatalf("%q: error %d", line, e)
		}
	}
	return x
}

// seaS and lossX are those of the examples of chapter 2.
func seaS(t testing.TB) api.Sea {
	t.Helper()
	s, fault := drift.ParseSea("sea 5 2\nheights 4 4 9 4 4\ntide 1 2\ntide 0 5\ntide -1 2\ntide 0 0\n")
	if fault.Err != api.OK {
		t.Fatalf("ParseSea: %v", fault)
	}
	return s
}

func lossX() api.Loss {
	return api.Loss{Id: 1, Cells: api.Range{Low: 1, High: 1}, Bands: api.Range{Low: 2, High: 2}}
}

// windsL are the winds of the examples of chapter 2.
func windsL() []string { return []string{"1 0 wind 0 9 0 0 0 1", "2 3 wind 2 3 0 1 1 1"} }

// sample is what the chapter's last example is about.
func sample(t testing.TB) records {
	t.Helper()
	x := records{c: api.Season{Sea: seaS(t), Losses: []api.Loss{lossX()}}}
	return x.with(t, windsL()...).with(t,
		"1 0 package 1 1 0 ab? wool 100 200 1 7",
		"2 0 package 1 2 0 cd wool 50 90 1 7",
		"1 5 3 found 1 abc wool 150 160 3",
		"2 5 4 found 2 ?? wool 60 60 3",
		"3 5 4 found 4 ?? wool 60 60 3",
		"4 5 4 found 2 ?? wool 91 95 3")
}

// modelLeaf reports whether there is a slot of a package.
func (x records) modelLeaf(known, loss, pack int) bool {
	return slices.ContainsFunc(x.c.Losses, func(y api.Loss) bool { return y.Id == loss }) &&
		slices.Contains(cargo.Leaves(x.papers, known, loss), pack)
}

func (x records) modelSlots(known int) []api.Slot {
	var out []api.Slot
	for loss := 1; loss <= api.MaxLosses; loss++ {
		for pack := 1; pack <= api.MaxPacks; pack++ {
			if x.modelLeaf(known, loss, pack) {
				p, _ := cargo.PaperOf(x.papers, known, loss, pack)
				out = append(out, api.Slot{Loss: loss, Pack: pack, Pieces: p.Pieces})
			}
		}
	}
	return out
}

// modelWhy returns why a find does not fit a slot, for records without errors.
func (x records) modelWhy(known, parcel, loss, pack int) (uint8, api.Errno) {
	finds, _ := find.Finds(x.reports, known)
	if !slices.Contains(finds, parcel) || !x.modelLeaf(known, loss, pack) {
		return 0, api.ErrNone
	}
	p, _ := find.ParcelOf(x.reports, known, parcel)
	paper, _ := cargo.PaperOf(x.papers, known, loss, pack)
	least, _, e := find.Weight(x.reports, known, parcel)
	if e == api.ErrBalance {
		least = p.Weight.Low
	}
	ends, e := cargo.Weigh(x.papers, known, loss, pack)
	if e == api.ErrTree || e == api.ErrDoubt {
		ends = paper.Weight
	}
	switch {
	case p.Goods != paper.Goods:
		return api.WhyGoods, api.OK
	case !cargo.Meet(p.Mark, paper.Mark):
		return api.WhyMark, api.OK
	case least > ends.High:
		return api.WhyWeight, api.OK
	case !x.modelLands(known, p, loss):
		return api.WhyDrift, api.OK
	}
	return api.FitYes, api.OK
}

// modelLands reports whether a package with the goods of a find can be where it was found.
func (x records) modelLands(known int, p api.Parcel, loss int) bool {
	float := api.FloatDeep
	for _, y := range x.c.Floats {
		if y.Goods == p.Goods {
			float = y.Float
		}
	}
	i := slices.IndexFunc(x.c.Losses, func(y api.Loss) bool { return y.Id == loss })
	behind := p.Hour - x.c.Losses[i].Hours.Low
	if p.Cell > x.c.Sea.Cells-1 || behind < 0 {
		return false
	}
	if behind > 200 {
		return true
	}
	at := api.Place{Cell: p.Cell}
	_, is, e := drift.CourseTo(x.c.Sea, x.winds, known, x.c.Losses[i], float, at, p.Hour)
	return is && e == api.OK
}

// same compares lists, of which an empty one is as good as none.
func same[T comparable](t testing.TB, what string, got, want []T) {
	t.Helper()
	if !slices.Equal(got, want) {
		t.Errorf("%s: %v, want %v", what, got, want)
	}
}

// fine fails a test if there is an error.
func fine(t testing.TB, what string, e api.Errno) {
	t.Helper()
	if e != api.OK {
		t.Errorf("%s: error %d", what, e)
	}
}

// sameBoard compares boards.
func sameBoard(t testing.TB, what string, got, want api.Board) {
	t.Helper()
	same(t, what+": finds", got.Finds, want.Finds)
	same(t, what+": slots", got.Slots, want.Slots)
	sameLists(t, what+": fits", got.Fits, want.Fits)
}

// sameLists compares lists of lists.
func sameLists(t testing.TB, what string, got, want [][]int) {
	t.Helper()
	if !slices.EqualFunc(got, want, slices.Equal[[]int]) {
		t.Errorf("%s: %v, want %v", what, got, want)
	}
}
