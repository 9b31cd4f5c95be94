package drift_test

import (
	"math/rand/v2"
	"slices"
	"testing"

	"lagan/api"
	"lagan/drift"
)

// places reads pairs of a cell and a band.
func places(pairs ...int) []api.Place {
	var out []api.Place
	for i := 0; i < len(pairs); i += 2 {
		out = append(out, api.Place{Cell: pairs[i], Band: pairs[i+1]})
	}
	return out
}

// P2.1, B5: the error of the sea, then each field within its bounds.
func TestCheckLoss(t *testing.T) {
	s := sea(t, "sea 5 4", "heights 0 0 0 0 0", "tide 0 0")
	x := api.Loss{Id: 7, Cells: api.Range{Low: 1, High: 3}, Bands: api.Range{Low: 2, High: 3}, Hours: api.Range{Low: 5, High: 9}}
	for _, c := range []struct {
		what   string
		change func(*api.Loss)
		want   api.Errno
	}{
		{"as it is", func(x *api.Loss) {}, api.OK},
		{"Id 0", func(x *api.Loss) { x.Id = 0 }, api.ErrArg},
		{"Id 1", func(x *api.Loss) { x.Id = 1 }, api.OK},
		{"Id 20", func(x *api.Loss) { x.Id = 20 }, api.OK},
		{"Id 21", func(x *api.Loss) { x.Id = 21 }, api.ErrArg},
		{"cells from -1", func(x *api.Loss) { x.Cells.Low = -1 }, api.ErrArg},
		{"cells from 0", func(x *api.Loss) { x.Cells.Low = 0 }, api.OK},
		{"cells to 4", func(x *api.Loss) { x.Cells.High = 4 }, api.OK},
		{"cells to 5", func(x *api.Loss) { x.Cells.High = 5 }, api.ErrArg},
		{"cells 3 to 3", func(x *api.Loss) { x.Cells.Low = 3 }, api.OK},
		{"cells 4 to 3", func(x *api.Loss) { x.Cells.Low = 4 }, api.ErrArg},
		{"bands from 0", func(x *api.Loss) { x.Bands.Low = 0 }, api.ErrArg},
		{"bands from 1", func(x *api.Loss) { x.Bands.Low = 1 }, api.OK},
		{"bands to 4", func(x *api.Loss) { x.Bands.High = 4 }, api.OK},
		{"bands to 5", func(x *api.Loss) { x.Bands.High = 5 }, api.ErrArg},
		{"bands 4 to 3", func(x *api.Loss) { x.Bands.Low = 4 }, api.ErrArg},
		{"hours from -1", func(x *api.Loss) { x.Hours.Low = -1 }, api.ErrArg},
		{"hours from 0", func(x *api.Loss) { x.Hours.Low = 0 }, api.OK},
		{"hours to 1000000", func(x *api.Loss) { x.Hours.High = 1000000 }, api.OK},
		{"hours 1000000 to 1000000", func(x *api.Loss) { x.Hours = api.Range{Low: 1000000, High: 1000000} }, api.OK},
		{"hours to 1000001", func(x *api.Loss) { x.Hours.High = 1000001 }, api.ErrArg},
		{"hours 10 to 9", func(x *api.Loss) { x.Hours.Low = 10 }, api.ErrArg},
		{"nothing", func(x *api.Loss) { *x = api.Loss{} }, api.ErrArg},
	} {
		y := x
		c.change(&y)
		if e := drift.CheckLoss(s, y); e != c.want {
			t.Errorf("%s: error %d, want %d", c.what, e, c.want)
		}
	}
	s.Heights = s.Heights[:4]
	if e := drift.CheckLoss(s, x); e != api.ErrArg {
		t.Errorf("no sea: error %d", e)
	}
}

// P2.1, B5: what a package does in an hour, at the edges of the sea, on beaches, by each float.
func TestMoves(t *testing.T) {
	s := sea(t, "sea 6 3", "heights 0 4 4 4 9 5", "tide 2 4", "tide -3 0", "tide 0 9")
	l := read(t, "1 0 wind 0 2 -1 1 0 0", "2 0 wind 3 5 0 0 -2 2", "3 0 wind 6 6 1 1 1 1", "4 0 wind 7 7 -2 -2 -1 -1", "5 0 wind 8 8 0 1 0 1")
	for _, c := range []struct {
		what  string
		float uint8
		at    api.Place
		hour  int
		want  []api.Place
	}{
		{"along", 1, api.Place{Cell: 2, Band: 2}, 0, places(3, 2, 4, 2, 5, 2)},
		{"along twice as far", 2, api.Place{Cell: 1, Band: 2}, 0, places(1, 2, 3, 2, 5, 2)},
		{"not beyond the last cell", 1, api.Place{Cell: 4, Band: 2}, 0, places(5, 2)},
		{"the last cell, and one before it", 1, api.Place{Cell: 3, Band: 1}, 0, places(4, 1, 5, 1)},
		{"not below the cell 0", 1, api.Place{Cell: 2, Band: 2}, 1, places(0, 2)},
		{"one cell above 0", 1, api.Place{Cell: 3, Band: 2}, 1, places(0, 2, 1, 2)},
		{"ashore and away", 1, api.Place{Cell: 0, Band: 1}, 3, places(2, 0, 2, 1, 2, 2, 2, 3)},
		{"not above the bands", 1, api.Place{Cell: 0, Band: 3}, 3, places(2, 1, 2, 2, 2, 3)},
		{"ashore twice as far", 2, api.Place{Cell: 0, Band: 2}, 3, places(2, 0, 2, 2, 2, 3)},
		{"ashore twice as far from the band 3", 2, api.Place{Cell: 0, Band: 3}, 3, places(2, 0, 2, 1, 2, 3)},
		{"towards the shore", 1, api.Place{Cell: 0, Band: 3}, 6, places(3, 2)},
		{"towards the shore by 2", 2, api.Place{Cell: 0, Band: 3}, 6, places(4, 1)},
		{"away from it", 1, api.Place{Cell: 5, Band: 1}, 7, places(0, 2)},
		{"each with each", 1, api.Place{Cell: 1, Band: 2}, 8, places(1, 1, 1, 2, 2, 1, 2, 2)},
		{"nothing is known", 1, api.Place{Cell: 0, Band: 2}, 9, places(0, 0, 0, 1, 0, 2, 0, 3, 1, 0, 1, 1, 1, 2, 1, 3, 2, 0, 2, 1, 2, 2, 2, 3,
			3, 0, 3, 1, 3, 2, 3, 3, 4, 0, 4, 1, 4, 2, 4, 3)},
		{"nothing is known, twice as far", 2, api.Place{Cell: 1, Band: 3}, 11, places(0, 0, 0, 1, 0, 3, 1, 0, 1, 1, 1, 3, 3, 0, 3, 1, 3, 3, 5, 0, 5, 1, 5, 3)},
		{"a beach as high as the tide", 1, api.Place{Cell: 1}, 0, places(1, 0, 1, 1)},
		{"a beach above the tide", 1, api.Place{Cell: 5}, 0, places(5, 0)},
		{"a beach at 0, and no tide", 2, api.Place{Cell: 0}, 1, places(0, 0, 0, 1)},
		{"a beach above no tide", 2, api.Place{Cell: 1}, 1, places(1, 0)},
		{"a beach at 9, and the highest tide", 1, api.Place{Cell: 4}, 2, places(4, 0, 4, 1)},
		{"the last hour", 1, api.Place{Cell: 4}, 1000000, places(4, 0)},
		{"the last hour but one", 1, api.Place{Cell: 4}, 999998, places(4, 0, 4, 1)},
	} {
		got, e := drift.Moves(s, l, 0, c.float, c.at, c.hour)
		fine(t, c.what, e)
		same(t, c.what, got, c.want)
	}
	m := sample(t)
	a, e := drift.Moves(m.s, m.l, 0, 1, api.Place{Cell: 2}, 1)
	b, g := drift.Moves(m.s, m.l, 0, 1, api.Place{}, 1)
	fine(t, "Moves", e)
	fine(t, "Moves", g)
	same(t, "Moves", a, places(2, 0))
	same(t, "Moves", b, places(0, 0, 0, 1))
}

// P2.1, B5 and B10, and P2.3: Moves, and Before backwards, are those of the model.
func TestMovesOfModel(t *testing.T) {
	r := rand.New(rand.NewPCG(5, 2))
	for range 300 {
		m, hour := randomModel(r)
		var all [][]api.Place
		for _, p := range m.everywhere() {
			got, e := drift.Moves(m.s, m.l, m.known, m.float, p, hour)
			fine(t, "Moves", e)
			same(t, "Moves", got, m.moves(p, hour))
			all = append(all, got)
		}
		for _, to := range m.everywhere() {
			got, e := drift.Before(m.s, m.l, m.known, m.float, to, hour+1, 1)
			fine(t, "Before", e)
			for i, p := range m.everywhere() {
				if slices.Contains(got, p) != slices.Contains(all[i], to) {
					t.Fatalf("Before %v: %v, but Moves from %v: %v", to, got, p, all[i])
				}
			}
		}
	}
}
