package drift_test

import (
	"math/rand/v2"
	"slices"
	"testing"

	"lagan/api"
	"lagan/drift"
)

func (m model) driftReach(t testing.TB, hour int) []api.Place {
	t.Helper()
	got, e := drift.Reach(m.s, m.l, m.known, m.x, m.float, hour)
	fine(t, "Reach", e)
	return got
}

// P2.1, B6 to B11: the examples of the chapter.
func TestExamples(t *testing.T) {
	m := sample(t)
	same(t, "Reach at 0", m.driftReach(t, 0), places(1, 2))
	same(t, "Reach at 1", m.driftReach(t, 1), places(2, 1, 2, 2))
	same(t, "Reach at 2", m.driftReach(t, 2), places(2, 0, 2, 1, 2, 2))
	same(t, "Reach at 3", m.driftReach(t, 3), places(1, 0, 1, 1, 1, 2, 2, 0))
	high := m
	high.float = 2
	same(t, "Reach with the float 2", high.driftReach(t, 1), places(2, 0, 2, 2))
	for known, want := range map[int][]int{0: {1, 2}, 2: {1, 2}, 3: {1, 2, 3}} {
		got, e := drift.Beaches(m.s, m.l, known, m.x, 1, 4)
		fine(t, "Beaches", e)
		same(t, "Beaches", got, want)
	}
	landings, e := drift.Landings(m.s, m.l, 0, m.x, 1, 4)
	fine(t, "Landings", e)
	same(t, "Landings", landings, []api.Landing{{Cell: 1, First: 3, Last: 4}, {Cell: 2, First: 2, Last: 2}})
	before, e := drift.Before(m.s, m.l, 0, 1, api.Place{Cell: 2}, 2, 1)
	fine(t, "Before", e)
	same(t, "Before", before, places(2, 0, 2, 1))
	touched, e := drift.Touched(m.s, m.l, 0, 3, m.x, 1, 4)
	fine(t, "Touched", e)
	same(t, "Touched", touched, places(1, 1, 1, 2, 3, 0))
	for _, c := range []struct{ known, cell int }{{0, 3}, {3, 4}} {
		ids, is, e := drift.Lineage(m.s, m.l, c.known, m.x, 1, api.Place{Cell: c.cell}, 4)
		fine(t, "Lineage", e)
		same(t, "Lineage", ids, []int{1})
		if !is {
			t.Errorf("Lineage as known at %d: it can be there", c.known)
		}
	}
}

// P2.1, B6 to B7, and P2.2, P2.3, P2.6: where packages can be, and land, is what the model says.
func TestReachOfModel(t *testing.T) {
	r := rand.New(rand.NewPCG(6, 7))
	landed := 0
	for range 1000 {
		m, hour := randomModel(r)
		want := m.reach(hour)
		same(t, "Reach", m.driftReach(t, hour), want)
		var cells []int
		for _, p := range want {
			if p.Band == 0 {
				cells = append(cells, p.Cell)
			}
		}
		got, e := drift.Beaches(m.s, m.l, m.known, m.x, m.float, hour)
		fine(t, "Beaches", e)
		same(t, "Beaches", got, cells)
		landings, e := drift.Landings(m.s, m.l, m.known, m.x, m.float, hour)
		fine(t, "Landings", e)
		same(t, "Landings", landings, m.landings(hour))
		landed += len(landings)
		if t.Failed() {
			t.Fatalf("%+v at %d", m, hour)
		}
	}
	if landed < 1000 {
		t.Errorf("only %d landings", landed)
	}
}

// P2.1, B7: what was washed away and lands again, what lay on the beach all the time, and the first hour of all.
func TestLandings(t *testing.T) {
	s := sea(t, "sea 1 1", "heights 5", "tide 0 0", "tide 0 0", "tide 0 5", "tide 0 0")
	x := api.Loss{Id: 1, Bands: api.Range{Low: 1, High: 1}}
	l := read(t, "1 0 wind 0 0 0 0 1 1", "2 0 wind 1 9 0 0 0 0", "3 0 wind 7 7 0 0 1 1")
	for until, want := range map[int][]api.Landing{
		0: nil, 1: {{First: 1, Last: 1}}, 7: {{First: 1, Last: 1}}, 8: {{First: 1, Last: 8}}, 9: {{First: 1, Last: 8}}, 11: {{First: 1, Last: 8}}, 12: {{First: 1, Last: 12}}, 13: {{First: 1, Last: 13}},
	} {
		got, e := drift.Landings(s, l, 0, x, 1, until)
		fine(t, "Landings", e)
		same(t, "Landings", got, want)
	}
	late := x
	late.Hours = api.Range{Low: 999999, High: 1000000}
	got, e := drift.Landings(s, nil, 0, late, 2, 1000000)
	fine(t, "Landings at the last hour", e)
	same(t, "Landings at the last hour", got, []api.Landing{{First: 1000000, Last: 1000000}})
}

// P2.1, B10: Before by many hours, and by none.
func TestBefore(t *testing.T) {
	r := rand.New(rand.NewPCG(10, 2))
	for range 300 {
		m, hour := randomModel(r)
		all := m.everywhere()
		at := all[r.IntN(len(all))]
		back := r.IntN(hour + 1)
		got, e := drift.Before(m.s, m.l, m.known, m.float, at, hour, back)
		fine(t, "Before", e)
		same(t, "Before", got, m.before(at, hour, back))
		got, e = drift.Before(m.s, m.l, m.known, m.float, at, hour, 0)
		fine(t, "Before", e)
		same(t, "Before, no hours", got, []api.Place{at})
	}
	m := sample(t)
	for _, c := range []struct {
		hour, back int
		want       api.Errno
	}{
		{0, 0, api.OK}, {0, 1, api.ErrArg}, {0, -1, api.ErrArg}, {5, 5, api.OK}, {5, 6, api.ErrArg}, {200, 200, api.OK}, {201, 201, api.ErrArg},
		{1000000, 200, api.OK}, {1000000, 201, api.ErrArg}, {1000000, -1, api.ErrArg}, {1000001, 1, api.ErrArg}, {-1, -1, api.ErrArg}, {9, 1 << 62, api.ErrArg}, {9, -1 << 63, api.ErrArg},
	} {
		got, e := drift.Before(m.s, m.l, 0, 1, api.Place{}, c.hour, c.back)
		if e != c.want || (len(got) == 0) != (e != api.OK) {
			t.Errorf("Before %d, %d hours back: %v, error %d, want %d", c.hour, c.back, got, e, c.want)
		}
	}
}

// P2.1, B10, and P2.5: Which has the losses of which Reach has the place, in the order of the list.
func TestWhich(t *testing.T) {
	r := rand.New(rand.NewPCG(11, 2))
	found := 0
	for range 300 {
		m, hour := randomModel(r)
		var losses []api.Loss
		for _, id := range r.Perm(20)[:r.IntN(6)] {
			x := randomLoss(r, m.s)
			x.Id = id + 1
			losses = append(losses, x)
		}
		all := m.everywhere()
		at := all[r.IntN(len(all))]
		var want []int
		for _, x := range losses {
			m.x = x
			if hour >= x.Hours.Low && slices.Contains(m.driftReach(t, hour), at) {
				want = append(want, x.Id)
			}
		}
		got, e := drift.Which(m.s, m.l, m.known, losses, m.float, at, hour)
		fine(t, "Which", e)
		same(t, "Which", got, want)
		found += len(want)
	}
	if found < 100 {
		t.Errorf("only %d losses", found)
	}
}

// P2.1, B10: the losses of a list, and those of which the hour is not asked.
func TestWhichLosses(t *testing.T) {
	m := sample(t)
	at := api.Place{Cell: 1, Band: 2}
	x, y, z := m.x, m.x, m.x
	x.Id, y.Id, z.Id = 9, 4, 5
	x.Hours = api.Range{Low: 0, High: 999}
	y.Hours = api.Range{Low: 300, High: 300}
	z.Hours = api.Range{Low: 100, High: 500}
	bad, far := m.x, m.x
	bad.Id = 0
	far.Hours = api.Range{Low: 1000000, High: 1000000}
	many := make([]api.Loss, 21)
	for i := range many {
		many[i] = m.x
		many[i].Id = i + 1
	}
	for _, c := range []struct {
		what   string
		losses []api.Loss
		hour   int
		ids    []int
		want   api.Errno
	}{
		{"none", nil, 0, nil, api.OK},
		{"in the order of the list", []api.Loss{x, y, z}, 300, []int{4, 5}, api.OK},
		{"in the order of the list", []api.Loss{z, y, x}, 300, []int{5, 4}, api.OK},
		{"200 hours behind, and none before", []api.Loss{x, y, z}, 200, []int{9, 5}, api.OK},
		{"the last hour that is asked", []api.Loss{x, z, far}, 300, []int{5}, api.OK},
		{"one Id twice, and far", []api.Loss{x, far, far}, 300, nil, api.ErrTwice},
		{"one Id twice", []api.Loss{x, y, z, x}, 300, nil, api.ErrTwice},
		{"one that is refused behind two of one Id", []api.Loss{x, x, bad}, 300, nil, api.ErrArg},
		{"one that is refused", []api.Loss{x, bad, y}, 300, nil, api.ErrArg},
		{"20", many[:20], 1000000, nil, api.OK},
		{"21", many, 1000000, nil, api.ErrLimit},
		{"21 that are refused", make([]api.Loss, 21), -1, nil, api.ErrLimit},
		{"20 that are refused", make([]api.Loss, 20), -1, nil, api.ErrArg},
	} {
		got, e := drift.Which(m.s, m.l, 0, c.losses, 1, at, c.hour)
		if e != c.want {
			t.Errorf("%s: error %d, want %d", c.what, e, c.want)
		}
		same(t, c.what, got, c.ids)
	}
	for _, c := range []struct {
		losses []api.Loss
		want   api.Errno
	}{{many, api.ErrLimit}, {[]api.Loss{x, x}, api.ErrTwice}} {
		if got, e := drift.Which(m.s, m.l, 0, c.losses, 0, api.Place{Cell: 9}, -1); e != c.want || len(got) > 0 {
			t.Errorf("losses before the float: %v, error %d, want %d", got, e, c.want)
		}
	}
	for _, losses := range [][]api.Loss{many, {bad}} {
		if got, e := drift.Which(m.s, append(m.l, m.l[0]), 0, losses, 0, api.Place{Cell: 9}, -1); e != api.ErrTwice || len(got) > 0 {
			t.Errorf("no log: %v, error %d", got, e)
		}
	}
}

// P2.1, B11, and P2.4: Lineage is what the model says, and by its winds alone a package cannot be there.
func TestLineage(t *testing.T) {
	r := rand.New(rand.NewPCG(11, 4))
	rested, several := 0, 0
	for range 600 {
		m, hour := randomModel(r)
		all := m.everywhere()
		to := all[r.IntN(len(all))]
		ids, is, e := drift.Lineage(m.s, m.l, m.known, m.x, m.float, to, hour)
		fine(t, "Lineage", e)
		want, cannot := m.lineage(to, hour)
		same(t, "Lineage", ids, want)
		if is != cannot {
			t.Fatalf("Lineage of %v at %d: %v, want %v, of %+v", to, hour, is, cannot, m)
		}
		if !is {
			continue
		}
		rested++
		if len(ids) > 1 {
			several++
		}
		alone := m.by(slices.DeleteFunc(slices.Clone(m.l), func(x api.Wind) bool { return !slices.Contains(ids, x.Id) }))
		if slices.Contains(alone.driftReach(t, hour), to) {
			t.Fatalf("by %v alone it can be at %v at %d: %+v", ids, to, hour, m)
		}
	}
	if rested < 100 || several < 10 {
		t.Errorf("only %d lineages, %d of several winds", rested, several)
	}
}

// P2.1, B11: what rests on no wind, and what does not hold any more if one of two winds for an hour goes.
func TestLineageEdges(t *testing.T) {
	s := sea(t, "sea 9 1", "heights 9 9 9 9 9 9 9 9 9", "tide 0 0")
	x := api.Loss{Id: 1, Bands: api.Range{Low: 1, High: 1}}
	for _, c := range []struct {
		what string
		l    []api.Wind
		cell int
		ids  []int
		is   bool
	}{
		{"too far for each wind", read(t, "5 0 wind 0 9 0 0 0 0"), 3, nil, true},
		{"no wind, and too far", nil, 3, nil, true},
		{"no wind, and not too far", nil, 2, nil, false},
		{"two that say the same: the first one", read(t, "5 0 wind 0 9 0 1 0 0", "3 0 wind 0 9 0 1 0 0"), 2, []int{5}, true},
		{"one that is covered by a wider one", read(t, "5 0 wind 0 9 0 1 0 0", "3 0 wind 0 9 1 2 0 0"), 2, nil, false},
		{"one that covers a wider one", read(t, "5 0 wind 0 9 1 2 0 0", "3 0 wind 0 9 0 1 0 0"), 2, []int{3}, true},
		{"withdrawn", read(t, "5 0 wind 0 9 0 1 0 0", "3 0 void 5"), 2, nil, false},
		{"withdrawn, but not the other one", read(t, "5 0 wind 0 9 0 1 0 0", "7 0 wind 0 9 0 1 0 0", "3 0 void 5"), 2, []int{7}, true},
	} {
		ids, is, e := drift.Lineage(s, c.l, 0, x, 1, api.Place{Cell: c.cell, Band: 1}, 1)
		fine(t, c.what, e)
		same(t, c.what, ids, c.ids)
		if is != c.is {
			t.Errorf("%s: %v", c.what, is)
		}
	}
	two := read(t, "5 0 wind 1 1 0 0 0 0", "3 0 wind 0 0 0 0 0 0")
	ids, is, e := drift.Lineage(s, two, 0, x, 1, api.Place{Cell: 1, Band: 1}, 2)
	if !slices.Equal(ids, []int{3, 5}) || !is || e != api.OK {
		t.Errorf("one wind an hour: %v, %v, error %d", ids, is, e)
	}
}

// P2.1, B11, and P2.7: Touched has what is in one Reach alone, and nothing if no record became known between.
func TestTouched(t *testing.T) {
	r := rand.New(rand.NewPCG(11, 7))
	touched := 0
	for range 600 {
		m, hour := randomModel(r)
		from, to := r.IntN(7)-1, r.IntN(7)-1
		a, b := m, m
		a.known, b.known = from, to
		first, second := a.reach(hour), b.reach(hour)
		want := slices.DeleteFunc(m.everywhere(), func(p api.Place) bool { return slices.Contains(first, p) == slices.Contains(second, p) })
		got, e := drift.Touched(m.s, m.l, from, to, m.x, m.float, hour)
		fine(t, "Touched", e)
		same(t, "Touched", got, want)
		touched += len(got)
		between := slices.ContainsFunc(m.l, func(x api.Wind) bool { return min(from, to) < x.Known && x.Known <= max(from, to) })
		if !between && len(got) > 0 {
			t.Errorf("Touched: %v, though nothing became known from %d to %d", got, from, to)
		}
	}
	if touched < 100 {
		t.Errorf("only %d places", touched)
	}
}

// P2.4: a wind for hours for which there was none leaves no more places.
func TestNarrower(t *testing.T) {
	r := rand.New(rand.NewPCG(4, 2))
	fewer := 0
	for range 1000 {
		m, hour := randomModel(r)
		m.known = 100
		x := randomWind(r, nil, 9)
		x.Id, x.Known = 50, 100
		for h := x.From; h <= x.Until; h++ {
			if _, is := modelWind(m.l, 100, h); is {
				x.Until = h - 1
			}
		}
		longer, e := drift.Append(m.l, x)
		if e != api.OK {
			continue
		}
		wide, narrow := m.driftReach(t, hour), m.by(longer).driftReach(t, hour)
		if slices.ContainsFunc(narrow, func(p api.Place) bool { return !slices.Contains(wide, p) }) {
			t.Fatalf("with %+v: %v, without it: %v", x, narrow, wide)
		}
		if len(narrow) < len(wide) {
			fewer++
		}
	}
	if fewer < 50 {
		t.Errorf("only %d winds left fewer places", fewer)
	}
}

// P2.5: wider ranges of a loss with the same first hour leave no fewer places.
func TestWider(t *testing.T) {
	r := rand.New(rand.NewPCG(5, 5))
	more := 0
	for range 500 {
		m, hour := randomModel(r)
		wide := m
		wide.x.Cells = api.Range{Low: r.IntN(m.x.Cells.Low + 1), High: m.x.Cells.High + r.IntN(m.s.Cells-m.x.Cells.High)}
		wide.x.Bands = api.Range{Low: 1 + r.IntN(m.x.Bands.Low), High: m.x.Bands.High + r.IntN(m.s.Bands-m.x.Bands.High+1)}
		wide.x.Hours.High += r.IntN(5)
		a, b := m.driftReach(t, hour), wide.driftReach(t, hour)
		if slices.ContainsFunc(a, func(p api.Place) bool { return !slices.Contains(b, p) }) {
			t.Fatalf("of %+v: %v, of %+v: %v", m.x, a, wide.x, b)
		}
		if len(a) < len(b) {
			more++
		}
	}
	if more < 50 {
		t.Errorf("only %d losses had more places", more)
	}
}

// P2.7: what is known later than the hour of knowledge changes nothing.
func TestLater(t *testing.T) {
	r := rand.New(rand.NewPCG(7, 7))
	for range 500 {
		m, hour := randomModel(r)
		now := m.by(slices.DeleteFunc(slices.Clone(m.l), func(x api.Wind) bool { return x.Known > m.known }))
		same(t, "Reach", m.driftReach(t, hour), now.driftReach(t, hour))
		a, e := drift.Landings(m.s, m.l, m.known, m.x, m.float, hour)
		b, g := drift.Landings(now.s, now.l, now.known, now.x, now.float, hour)
		fine(t, "Landings", e)
		fine(t, "Landings", g)
		same(t, "Landings", a, b)
		for _, p := range m.everywhere() {
			a, is, e := drift.Lineage(m.s, m.l, m.known, m.x, m.float, p, hour)
			b, was, g := drift.Lineage(now.s, now.l, now.known, now.x, now.float, p, hour)
			same(t, "Lineage", a, b)
			if is != was || e != api.OK || g != api.OK {
				t.Errorf("Lineage: %v, %v, errors %d, %d", is, was, e, g)
			}
		}
	}
}

// P2.1, B6: from the first one of the loss's Hours to 200 behind it, and no other ones.
func TestHoursAsked(t *testing.T) {
	m := sample(t)
	for _, c := range []struct {
		low, high, hour int
		want            api.Errno
	}{
		{5, 9, 4, api.ErrFar}, {5, 9, 5, api.OK}, {5, 9, 205, api.OK}, {5, 9, 206, api.ErrFar}, {5, 9, 0, api.ErrFar}, {5, 9, -1, api.ErrArg},
		{0, 1000000, 200, api.OK}, {0, 1000000, 201, api.ErrFar}, {5, 9, 1000000, api.ErrFar}, {5, 9, 1000001, api.ErrArg},
		{999900, 999900, 1000000, api.OK}, {999900, 999900, 1000001, api.ErrArg}, {1000000, 1000000, 1000000, api.OK}, {1000000, 1000000, 999999, api.ErrFar},
	} {
		m.x.Hours = api.Range{Low: c.low, High: c.high}
		got, e := drift.Reach(m.s, m.l, 0, m.x, 1, c.hour)
		if e != c.want || (len(got) == 0) != (e != api.OK) {
			t.Errorf("Reach of hours from %d at %d: %v, error %d, want %d", c.low, c.hour, got, e, c.want)
		}
	}
}
