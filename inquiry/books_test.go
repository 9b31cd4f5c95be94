package inquiry_test

import (
	"math"
	"slices"
	"testing"

	"lagan/api"
	"lagan/inquiry"
	"lagan/match"
)

// P9.1, I4: the examples.
func TestBoardExamples(t *testing.T) {
	b := booksB(t)
	want := api.Board{
		Finds: []int{60, 110},
		Slots: []api.Slot{{Loss: 1, Pack: 1, Pieces: 2}, {Loss: 1, Pack: 2, Pieces: 1}},
		Fits:  [][]int{{0}, {0}},
	}
	if board, e := inquiry.Board(b, 6); !alike(board, want) || e != api.OK {
		t.Errorf("Board: %+v, error %d", board, e)
	}
	for _, c := range []struct {
		pack, want int
		err        api.Errno
	}{{1, 8787, api.OK}, {2, -1, api.OK}, {3, 0, api.ErrNone}} {
		if n, e := inquiry.Deadline(b, 6, 1, c.pack); n != c.want || e != c.err {
			t.Errorf("Deadline of %d: %d, error %d", c.pack, n, e)
		}
	}
	if l, e := inquiry.TitlesOf(b, 20, 1, 1, 20); !slices.Equal(l, titles(t, "7 1/1")) || e != api.OK {
		t.Errorf("TitlesOf: %v, error %d", l, e)
	}
}

// P9.1, I4: a board is as known at an hour, which may be any number.
func TestBoardKnown(t *testing.T) {
	b := booksB(t)
	for known, want := range map[int][]int{math.MinInt: nil, -1: nil, 4: nil, 5: {60}, 6: {60, 110}, math.MaxInt: {60, 110}} {
		board, e := inquiry.Board(b, known)
		if !slices.Equal(board.Finds, want) || e != api.OK {
			t.Errorf("known at %d: %+v, error %d", known, board, e)
		}
		if wantSlots := 2; known >= 0 && len(board.Slots) != wantSlots || known < 0 && len(board.Slots) != 0 {
			t.Errorf("known at %d: %+v", known, board)
		}
	}
}

// P9.1, I4: the deadline is a year behind the first Hour of the finds that fit the slot, not behind the hour from which
// they are known, and whether some assignment gives them the slot or not.
func TestDeadline(t *testing.T) {
	b := told(t, seasonC(t), "0 1 0 paper package 1 1 0 ab oil 40 60 1 7", "0 2 0 paper package 1 2 0 cd oil 5 9 1 8",
		"1 1 50 report 30 found 1 ab oil 10 20 4", "1 2 60 report 20 found 0 ab oil 1 2 5", "1 3 70 report 10 found 0 cd wool 1 2 5")
	for _, c := range []struct{ known, pack, want int }{
		{49, 1, -1}, {50, 1, 30 + 8784}, {60, 1, 20 + 8784}, {70, 1, 20 + 8784}, {70, 2, -1},
	} {
		if n, e := inquiry.Deadline(b, c.known, 1, c.pack); n != c.want || e != api.OK {
			t.Errorf("known at %d, the package %d: %d, error %d", c.known, c.pack, n, e)
		}
	}
	// Both finds need the one piece of the slot, so that there is no assignment at all.
	if _, is, _ := match.Assign(boardOf(t, b, 70)); is {
		t.Error("there is an assignment")
	}
	late := entered(t, b, "2 1 1000000 report 1000000 found 0 cd oil 1 2 5")
	if n, e := inquiry.Deadline(late, 1000000, 1, 2); n != 1008784 || e != api.OK {
		t.Errorf("a late find: %d, error %d", n, e)
	}
}

func boardOf(t testing.TB, b api.Books, known int) api.Board {
	t.Helper()
	board, e := inquiry.Board(b, known)
	if e != api.OK {
		t.Fatalf("Board: error %d", e)
	}
	return board
}

// P9.1, I4: titles go over by deeds, and behind the deadline to the crown.
func TestTitlesOf(t *testing.T) {
	b := entered(t, booksB(t), "1 3 20 deed 10 paid 1 1 7 9 1 3", "1 4 30 deed 8787 claim 1 1 9", "1 5 40 deed 8000 claim 1 2 9", "1 6 50 deed 30 sold 1 2 8 6 1 2")
	for _, c := range []struct {
		known, pack, hour int
		want              string
	}{
		{20, 1, 9, "7 1/1"},
		{19, 1, 10, "7 1/1"},
		{20, 1, 10, "7 2/3, 9 1/3"},
		{30, 1, 8787, "7 2/3, 9 1/3"},
		{30, 1, 8788, "0 2/3, 9 1/3"},
		{29, 1, 8788, "0 1/1"},
		{49, 2, 1000000, "8 1/1"},
		{50, 2, 1000000, "6 1/2, 8 1/2"},
		{50, 2, math.MaxInt, "6 1/2, 8 1/2"},
		{50, 1, math.MinInt, "7 1/1"},
		{4, 1, 9000, "7 1/1"}, // no find is known that fits it, so that there is no deadline
	} {
		if l, e := inquiry.TitlesOf(b, c.known, 1, c.pack, c.hour); !slices.Equal(l, titles(t, c.want)) || e != api.OK {
			t.Errorf("%+v: %v, error %d", c, l, e)
		}
	}
}

// manySlots returns books with so many slots: the last one is the package 1 of the loss 2.
func manySlots(t testing.TB, n int) api.Books {
	b := api.Books{Season: seasonOf(t, "sea 2 1\nheights 0 0\ntide 0 0\nloss 1 0 1 1 1 0 0\nloss 2 0 1 1 1 0 0\n")}
	for i := range n {
		x := api.Paper{Id: i + 1, Kind: api.PaperPackage, Loss: 1, Pack: i + 1, Mark: "ab", Goods: "oil", Weight: api.Span{Low: 40, High: 60}, Pieces: 1, Owner: 7}
		if i == n-1 {
			x.Loss, x.Pack = 2, 1
		}
		b.Papers = append(b.Papers, x)
	}
	return b
}

// addFinds adds so many finds that fit the slots of manySlots: the parcels 10, 20 and so on, found at the hours 1, 2 and so on.
func addFinds(b api.Books, n int) api.Books {
	for range n {
		id := len(b.Reports) + 1
		b.Reports = append(b.Reports, api.Report{
			Id: id, Known: 1000, Hour: id, Kind: api.ReportFound, Cell: 1, Mark: "a?", Goods: "oil", Weight: api.Span{Low: 1, High: 2}, Party: 1 + id%40,
		})
	}
	return b
}

// P9.1, I4: the errors, and their order: those of the board before those of the slot.
func TestBoardErrors(t *testing.T) {
	calls := map[string]func(b api.Books, known, loss, pack, hour int) (bool, api.Errno){
		"Board": func(b api.Books, known, loss, pack, hour int) (bool, api.Errno) {
			board, e := inquiry.Board(b, known)
			return alike(board, api.Board{}), e
		},
		"Deadline": func(b api.Books, known, loss, pack, hour int) (bool, api.Errno) {
			n, e := inquiry.Deadline(b, known, loss, pack)
			return n == 0, e
		},
		"TitlesOf": func(b api.Books, known, loss, pack, hour int) (bool, api.Errno) {
			l, e := inquiry.TitlesOf(b, known, loss, pack, hour)
			return len(l) == 0, e
		},
	}
	for name, call := range calls {
		for want, b := range wrongBooks(t) {
			if zero, e := call(b, 20, 9, 9, 9); !zero || e != want {
				t.Errorf("%s of wrong books: zero %v, error %d, want %d", name, zero, e, want)
			}
		}
		for what, b := range map[string]api.Books{"201 slots": manySlots(t, 201), "61 finds": addFinds(manySlots(t, 1), 61)} {
			if zero, e := call(b, 1000, 9, 9, 9); !zero || e != api.ErrLimit {
				t.Errorf("%s of %s: zero %v, error %d", name, what, zero, e)
			}
		}
		if name == "Board" {
			continue
		}
		for _, slot := range [][2]int{{1, 0}, {1, 3}, {0, 1}, {2, 1}, {21, 1}, {1, 201}, {-1, -1}, {math.MaxInt, math.MinInt}} {
			if zero, e := call(booksB(t), 20, slot[0], slot[1], 20); !zero || e != api.ErrNone {
				t.Errorf("%s of the slot %v: zero %v, error %d", name, slot, zero, e)
			}
		}
		if zero, e := call(booksB(t), -1, 1, 1, 20); !zero || e != api.ErrNone {
			t.Errorf("%s of a slot that is not known: zero %v, error %d", name, zero, e)
		}
	}
	if board, e := inquiry.Board(addFinds(manySlots(t, 200), 60), 1000); len(board.Finds) != 60 || len(board.Slots) != 200 || e != api.OK {
		t.Errorf("as much as can be: %d finds, %d slots, error %d", len(board.Finds), len(board.Slots), e)
	}
}

// boundless returns books in which the sum of the titles of the package 1 of the loss 1 up to some one is not in range, and
// in which the crown would have such a sum behind the deadline, 8787.
func boundless(t testing.TB) api.Books {
	return entered(t, booksB(t), "2 1 20 deed 10 sold 1 1 7 9 1 2", "2 2 20 deed 11 sold 1 1 7 10 1 1009", "2 3 20 deed 12 sold 1 1 9 11 1 1013")
}

// P9.1, I4: the error of claim.Titles.
func TestTitlesNotInRange(t *testing.T) {
	b := boundless(t)
	if l, e := inquiry.TitlesOf(b, 20, 1, 1, 8787); !slices.Equal(l, titles(t, "7 504/1009, 9 506/1013, 10 1/2018, 11 1/2026")) || e != api.OK {
		t.Errorf("at the deadline: %v, error %d", l, e)
	}
	if l, e := inquiry.TitlesOf(b, 20, 1, 1, 8788); len(l) > 0 || e != api.ErrLimit {
		t.Errorf("behind the deadline: %v, error %d", l, e)
	}
	if l, e := inquiry.TitlesOf(b, 20, 1, 2, 8788); !slices.Equal(l, titles(t, "8 1/1")) || e != api.OK {
		t.Errorf("another slot: %v, error %d", l, e)
	}
}
