package drift_test

import (
	"math/rand/v2"
	"slices"
	"strings"
	"testing"

	"lagan/api"
	"lagan/drift"
)

// The model says what chapter 2 says, as directly as possible, and slowly.

// model is what is asked about: a sea, its log, an hour of knowledge, a loss, and how its packages float.
type model struct {
	s     api.Sea
	l     []api.Wind
	known int
	x     api.Loss
	float uint8
}

// read returns the records with some lines, in any order and number.
func read(t testing.TB, lines ...string) []api.Wind {
	t.Helper()
	var l []api.Wind
	for _, s := range lines {
		x, e := drift.Read(s)
		if e != api.OK {
			t.Fatalf("Read(%q): error %d", s, e)
		}
		l = append(l, x)
	}
	return l
}

// sea returns the sea with some lines.
func sea(t testing.TB, lines ...string) api.Sea {
	t.Helper()
	s, fault := drift.ParseSea(strings.Join(lines, "\n"))
	if fault != (api.Fault{}) {
		t.Fatalf("ParseSea(%q): %v", lines, fault)
	}
	return s
}

// sample is what the chapter's examples are about.
func sample(t testing.TB) model {
	t.Helper()
	return model{
		s:     sea(t, "sea 5 2", "heights 4 4 9 4 4", "tide 1 2", "tide 0 5", "tide -1 2", "tide 0 0"),
		l:     read(t, "1 0 wind 0 9 0 0 0 1", "2 3 wind 2 3 0 1 1 1"),
		x:     api.Loss{Id: 1, Cells: api.Range{Low: 1, High: 1}, Bands: api.Range{Low: 2, High: 2}},
		float: 1,
	}
}

func modelCounts(l []api.Wind, x api.Wind, known int) bool {
	for _, v := range l {
		if v.Of == x.Id && v.Known <= known {
			return false
		}
	}
	return x.Of == 0 && x.Known <= known
}

func modelWind(l []api.Wind, known, hour int) (api.Wind, bool) {
	found, is := api.Wind{}, false
	for _, x := range l {
		if modelCounts(l, x, known) && x.From <= hour && hour <= x.Until {
			found, is = x, true
		}
	}
	return found, is
}

// everywhere are all places of the sea, in order.
func (m model) everywhere() []api.Place {
	var out []api.Place
	for cell := 0; cell < m.s.Cells; cell++ {
		for band := 0; band <= m.s.Bands; band++ {
			out = append(out, api.Place{Cell: cell, Band: band})
		}
	}
	return out
}

// goes reports whether a package can go from one place to another one in an hour.
func (m model) goes(a, b api.Place, hour int) bool {
	tide := m.s.Tides[hour%len(m.s.Tides)]
	if a.Band == 0 {
		return b == a || tide.Height >= m.s.Heights[a.Cell] && b == api.Place{Cell: a.Cell, Band: 1}
	}
	wind, is := modelWind(m.l, m.known, hour)
	for along := -2; along <= 2; along++ {
		for ashore := -2; ashore <= 2; ashore++ {
			if is && (along < wind.Along.Low || along > wind.Along.High || ashore < wind.Ashore.Low || ashore > wind.Ashore.High) {
				continue
			}
			cell := a.Cell + tide.Along + along*int(m.float)
			if cell < 0 {
				cell = 0
			}
			if cell > m.s.Cells-1 {
				cell = m.s.Cells - 1
			}
			band := a.Band - ashore*int(m.float)
			if band < 0 {
				band = 0
			}
			if band > m.s.Bands {
				band = m.s.Bands
			}
			if b == (api.Place{Cell: cell, Band: band}) {
				return true
			}
		}
	}
	return false
}

func (m model) moves(a api.Place, hour int) []api.Place {
	return slices.DeleteFunc(m.everywhere(), func(b api.Place) bool { return !m.goes(a, b, hour) })
}

func (m model) began(p api.Place, hour int) bool {
	in := func(n int, r api.Range) bool { return r.Low <= n && n <= r.High }
	return in(hour, m.x.Hours) && in(p.Cell, m.x.Cells) && in(p.Band, m.x.Bands)
}

// spot is a place at an hour.
type spot struct {
	api.Place
	hour int
}

// reaches returns what says whether there is a course to a place at an hour, by looking for the end of one.
func (m model) reaches() func(p api.Place, hour int) bool {
	known := map[spot]bool{}
	var can func(p api.Place, hour int) bool
	can = func(p api.Place, hour int) bool {
		if hour < m.x.Hours.Low {
			return false
		}
		is, asked := known[spot{p, hour}]
		if asked {
			return is
		}
		is = m.began(p, hour)
		for _, q := range m.everywhere() {
			is = is || hour > m.x.Hours.Low && m.goes(q, p, hour-1) && can(q, hour-1)
		}
		known[spot{p, hour}] = is
		return is
	}
	return can
}

func (m model) reach(hour int) []api.Place {
	can := m.reaches()
	return slices.DeleteFunc(m.everywhere(), func(p api.Place) bool { return !can(p, hour) })
}

func (m model) landings(until int) []api.Landing {
	can := m.reaches()
	var out []api.Landing
	for cell := 0; cell < m.s.Cells; cell++ {
		first, last := -1, -1
		for hour := m.x.Hours.Low + 1; hour <= until; hour++ {
			for _, p := range m.everywhere() {
				if p.Band > 0 && can(p, hour-1) && m.goes(p, api.Place{Cell: cell}, hour-1) {
					if first < 0 {
						first = hour
					}
					last = hour
				}
			}
		}
		if first >= 0 {
			out = append(out, api.Landing{Cell: cell, First: first, Last: last})
		}
	}
	return out
}

func (m model) before(at api.Place, hour, back int) []api.Place {
	to := []api.Place{at}
	for h := hour - 1; h >= hour-back; h-- {
		to = slices.DeleteFunc(m.everywhere(), func(p api.Place) bool {
			return !slices.ContainsFunc(to, func(q api.Place) bool { return m.goes(p, q, h) })
		})
	}
	return to
}

// by is the model as if the log had some winds alone.
func (m model) by(winds []api.Wind) model {
	m.l = winds
	return m
}

func (m model) counting() []api.Wind {
	return slices.DeleteFunc(slices.Clone(m.l), func(x api.Wind) bool { return !modelCounts(m.l, x, m.known) })
}

func (m model) lineage(to api.Place, hour int) ([]int, bool) {
	winds := m.counting()
	if m.by(winds).reaches()(to, hour) {
		return nil, false
	}
	for _, x := range slices.Backward(m.counting()) {
		fewer := slices.DeleteFunc(slices.Clone(winds), func(y api.Wind) bool { return x.Id == y.Id })
		if !m.by(fewer).reaches()(to, hour) {
			winds = fewer
		}
	}
	var ids []int
	for _, x := range winds {
		ids = append(ids, x.Id)
	}
	slices.Sort(ids)
	return ids, true
}

func (m model) isCourse(to api.Place, hour int, c api.Course) bool {
	if c.From < m.x.Hours.Low || c.From > m.x.Hours.High || len(c.Places) == 0 || c.From+len(c.Places)-1 != hour {
		return false
	}
	for i, p := range c.Places {
		if !slices.Contains(m.everywhere(), p) || i > 0 && !m.goes(c.Places[i-1], p, c.From+i-1) {
			return false
		}
	}
	return m.began(c.Places[0], c.From) && c.Places[len(c.Places)-1] == to
}

func (m model) isBar(to api.Place, hour int, b api.Bar) bool {
	if len(b.Sets) == 0 || m.x.Hours.Low+len(b.Sets)-1 != hour {
		return false
	}
	for i, list := range b.Sets {
		at := 0
		for _, p := range m.everywhere() {
			has := at < len(list) && list[at] == p
			if has {
				at++
			}
			if !has && m.began(p, m.x.Hours.Low+i) {
				return false
			}
			if !has && i > 0 && slices.ContainsFunc(b.Sets[i-1], func(q api.Place) bool { return m.goes(q, p, m.x.Hours.Low+i-1) }) {
				return false
			}
		}
		if at < len(list) {
			return false
		}
	}
	return !slices.Contains(b.Sets[len(b.Sets)-1], to)
}

func randomRange(r *rand.Rand, low, high int) api.Range {
	a, b := low+r.IntN(high-low+1), low+r.IntN(high-low+1)
	return api.Range{Low: min(a, b), High: max(a, b)}
}

func randomSea(r *rand.Rand, cells, bands int) api.Sea {
	s := api.Sea{Cells: 1 + r.IntN(cells), Bands: 1 + r.IntN(bands)}
	for range s.Cells {
		s.Heights = append(s.Heights, r.IntN(10))
	}
	for range 1 + r.IntN(4) {
		s.Tides = append(s.Tides, api.Tide{Along: r.IntN(7) - 3, Height: r.IntN(10)})
	}
	return s
}

// randomWind returns a record, which may be refused, behind some others.
func randomWind(r *rand.Rand, l []api.Wind, hours int) api.Wind {
	x := api.Wind{Id: 1 + r.IntN(40)}
	if len(l) > 0 {
		x.Known = l[len(l)-1].Known + r.IntN(3)/2
	}
	if len(l) > 0 && r.IntN(5) == 0 {
		x.Of = l[r.IntN(len(l))].Id
		return x
	}
	at := randomRange(r, 0, hours)
	x.From, x.Until = at.Low, at.High
	x.Along, x.Ashore = randomRange(r, -2, 2), randomRange(r, -2, 2)
	if r.IntN(2) == 0 {
		x.Along.High, x.Ashore.High = x.Along.Low, x.Ashore.Low
	}
	return x
}

func randomLog(r *rand.Rand, hours int) []api.Wind {
	var l []api.Wind
	for range r.IntN(12) {
		if longer, e := drift.Append(l, randomWind(r, l, hours)); e == api.OK {
			l = longer
		}
	}
	return l
}

func randomLoss(r *rand.Rand, s api.Sea) api.Loss {
	low := r.IntN(4)
	return api.Loss{Id: 1 + r.IntN(20), Cells: randomRange(r, 0, s.Cells-1), Bands: randomRange(r, 1, s.Bands),
		Hours: api.Range{Low: low, High: low + r.IntN(6)*r.IntN(2)}}
}

// randomModel returns something small to ask about, and an hour at which it can be asked.
func randomModel(r *rand.Rand) (model, int) {
	s := randomSea(r, 7, 3)
	m := model{s: s, l: randomLog(r, 9), known: r.IntN(6) - 1, x: randomLoss(r, s), float: uint8(1 + r.IntN(2))}
	return m, m.x.Hours.Low + r.IntN(8)
}

// spoilt returns a text that is spoilt at one place.
func spoilt(r *rand.Rand, text, signs string) string {
	i, c := r.IntN(len(text)), r.IntN(len(signs))
	sign := signs[c : c+1]
	switch r.IntN(3) {
	case 0:
		return text[:i] + sign + text[i+1:]
	case 1:
		return text[:i] + text[i+1:]
	}
	return text[:i] + sign + text[i:]
}

// same compares lists, of which an empty one is as good as none.
func same[T comparable](t testing.TB, what string, got, want []T) {
	t.Helper()
	if !slices.Equal(got, want) {
		t.Errorf("%s: %v, want %v", what, got, want)
	}
}

// fine fails a test if there is an error.
func fine(t testing.TB, what string, e api.Errno) {
	t.Helper()
	if e != api.OK {
		t.Errorf("%s: error %d", what, e)
	}
}
