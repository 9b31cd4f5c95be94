package drift_test

import (
	"math/rand/v2"
	"reflect"
	"slices"
	"testing"

	"lagan/api"
	"lagan/drift"
)

func (m model) checkCourse(t testing.TB, to api.Place, hour int, c api.Course) bool {
	t.Helper()
	is, e := drift.CheckCourse(m.s, m.l, m.known, m.x, m.float, to, hour, c)
	fine(t, "CheckCourse", e)
	return is
}

func (m model) checkBar(t testing.TB, to api.Place, hour int, b api.Bar) bool {
	t.Helper()
	is, e := drift.CheckBar(m.s, m.l, m.known, m.x, m.float, to, hour, b)
	fine(t, "CheckBar", e)
	return is
}

// P2.1, B8 and B9: the examples of the chapter.
func TestProofExamples(t *testing.T) {
	m := sample(t)
	c, is, e := drift.CourseTo(m.s, m.l, 0, m.x, 1, api.Place{Cell: 2}, 4)
	if !is || e != api.OK || !reflect.DeepEqual(c, api.Course{Places: places(1, 2, 2, 1, 2, 0, 2, 0, 2, 0)}) {
		t.Errorf("CourseTo: %v, %v, error %d", c, is, e)
	}
	for known, want := range map[int]bool{0: true, 3: false} {
		b, is, e := drift.BarTo(m.s, m.l, known, m.x, 1, api.Place{Cell: 3}, 4)
		if is != want || e != api.OK || (len(b.Sets) == 5) != want || (len(b.Sets) == 0) == want {
			t.Errorf("BarTo as known at %d: %v, %v, error %d", known, b, is, e)
		}
	}
}

// P2.1, B8 and B9, and P2.2: one of the two for each place, as Reach says, and never both.
func TestOneOfTheTwo(t *testing.T) {
	r := rand.New(rand.NewPCG(2, 2))
	courses, bars := 0, 0
	for range 400 {
		m, hour := randomModel(r)
		reach := m.driftReach(t, hour)
		for _, to := range m.everywhere() {
			c, can, e := drift.CourseTo(m.s, m.l, m.known, m.x, m.float, to, hour)
			fine(t, "CourseTo", e)
			b, cannot, e := drift.BarTo(m.s, m.l, m.known, m.x, m.float, to, hour)
			fine(t, "BarTo", e)
			if can == cannot || can != slices.Contains(reach, to) {
				t.Fatalf("%+v, %v at %d: course %v, bar %v, Reach %v", m, to, hour, can, cannot, reach)
			}
			if can != m.checkCourse(t, to, hour, c) || can != m.isCourse(to, hour, c) || !can && (c.From != 0 || len(c.Places) > 0) {
				t.Fatalf("%+v, %v at %d: course %+v", m, to, hour, c)
			}
			if cannot != m.checkBar(t, to, hour, b) || cannot != m.isBar(to, hour, b) || !cannot && len(b.Sets) > 0 {
				t.Fatalf("%+v, %v at %d: bar %+v", m, to, hour, b)
			}
			if can {
				courses++
			} else {
				bars++
			}
		}
	}
	if courses < 1000 || bars < 1000 {
		t.Errorf("only %d courses and %d bars", courses, bars)
	}
}

// spoilCourse changes a course a little, or a lot.
func spoilCourse(r *rand.Rand, m model, c *api.Course) {
	c.Places = slices.Clone(c.Places)
	i := r.IntN(len(c.Places))
	all := m.everywhere()
	switch r.IntN(9) {
	case 0:
		c.From += r.IntN(3) - 1
	case 1:
		c.Places = c.Places[:i]
	case 2:
		c.Places = c.Places[i:]
	case 3:
		c.Places, c.From = c.Places[i:], c.From+i
	case 4:
		c.Places = append(c.Places, c.Places[len(c.Places)-1])
	case 5:
		c.Places, c.From = append([]api.Place{all[r.IntN(len(all))]}, c.Places...), c.From-1
	case 6:
		c.Places[i].Band += r.IntN(9) - 4
	case 7:
		c.Places[i].Cell += r.IntN(9) - 4
	default:
		c.Places[i] = all[r.IntN(len(all))]
	}
}

// P2.1, B8, and P2.2: which courses are accepted is what the model says; a bar is not accepted beside one.
func TestCheckCourse(t *testing.T) {
	r := rand.New(rand.NewPCG(8, 2))
	accepted, refused := 0, 0
	for range 3000 {
		m, hour := randomModel(r)
		reach := m.driftReach(t, hour)
		if len(reach) == 0 {
			continue
		}
		to := reach[r.IntN(len(reach))]
		c, _, _ := drift.CourseTo(m.s, m.l, m.known, m.x, m.float, to, hour)
		spoilCourse(r, m, &c)
		kept := api.Course{From: c.From, Places: slices.Clone(c.Places)}
		want := m.isCourse(to, hour, c)
		if m.checkCourse(t, to, hour, c) != want {
			t.Fatalf("%+v, %v at %d: %+v, want %v", m, to, hour, c, want)
		}
		if !reflect.DeepEqual(c, kept) {
			t.Fatal("CheckCourse changed the course")
		}
		if want {
			accepted++
		} else {
			refused++
		}
	}
	if accepted < 200 || refused < 1000 {
		t.Errorf("%d accepted, %d refused", accepted, refused)
	}
}

// P2.1, B8: courses that are none, one by one.
func TestCheckCourseEdges(t *testing.T) {
	m := sample(t)
	m.x.Hours.High = 2
	m.x.Cells.High = 2
	at := func(pairs ...int) api.Course { return api.Course{Places: places(pairs...)} }
	later := func(from int, pairs ...int) api.Course { return api.Course{From: from, Places: places(pairs...)} }
	for _, c := range []struct {
		what string
		to   api.Place
		hour int
		c    api.Course
		want bool
	}{
		{"as it is", api.Place{Cell: 2}, 2, at(1, 2, 2, 1, 2, 0), true},
		{"elsewhere in the loss's cells", api.Place{Cell: 3}, 2, at(2, 2, 3, 1, 3, 0), true},
		{"to elsewhere", api.Place{Cell: 2, Band: 1}, 2, at(1, 2, 2, 1, 2, 0), false},
		{"an hour later", api.Place{Cell: 2, Band: 1}, 2, later(1, 2, 2, 2, 1), true},
		{"in the last hour", api.Place{Cell: 2, Band: 2}, 2, later(2, 2, 2), true},
		{"behind the last hour", api.Place{Cell: 2, Band: 2}, 3, later(3, 2, 2), false},
		{"before the first hour", api.Place{Cell: 2}, 2, later(-1, 1, 2, 1, 2, 2, 1, 2, 0), false},
		{"behind the hour that is asked", api.Place{Cell: 2, Band: 2}, 1, later(2, 2, 2), false},
		{"no places, behind the hour", api.Place{Cell: 2, Band: 2}, 1, later(2), false},
		{"no places", api.Place{Cell: 2, Band: 2}, 0, at(), false},
		{"too few", api.Place{Cell: 2, Band: 2}, 2, at(1, 2, 2, 2), false},
		{"too many", api.Place{Cell: 2, Band: 2}, 1, at(1, 2, 2, 2, 2, 2), false},
		{"not in the loss's cells", api.Place{Cell: 4, Band: 2}, 1, at(3, 2, 4, 2), false},
		{"not in the loss's bands", api.Place{Cell: 2, Band: 1}, 1, at(1, 1, 2, 1), false},
		{"a jump", api.Place{Cell: 2}, 2, at(1, 2, 2, 2, 2, 0), false},
		{"a place beside the sea", api.Place{Cell: 2}, 2, at(1, 2, -1, 1, 2, 0), false},
		{"a place behind the sea", api.Place{Cell: 2}, 2, at(1, 2, 5, 1, 2, 0), false},
		{"a place away from the sea", api.Place{Cell: 2}, 2, at(1, 2, 2, 3, 2, 0), false},
		{"a place in the land", api.Place{Cell: 2}, 2, at(1, 2, 2, -1, 2, 0), false},
		{"the first place nowhere", api.Place{Cell: 2}, 2, at(1<<40, 1<<40, 2, 1, 2, 0), false},
		{"from far away", api.Place{Cell: 2}, 2, later(-1<<63, 1, 2, 2, 1, 2, 0), false},
		{"from far later", api.Place{Cell: 2}, 2, later(1<<62, 1, 2, 2, 1, 2, 0), false},
	} {
		if m.checkCourse(t, c.to, c.hour, c.c) != c.want {
			t.Errorf("%s: not %v", c.what, c.want)
		}
	}
}

// spoilBar changes a bar a little, or a lot.
func spoilBar(r *rand.Rand, m model, b *api.Bar) {
	i := r.IntN(len(b.Sets))
	all := m.everywhere()
	p := all[r.IntN(len(all))]
	at, is := slices.BinarySearchFunc(b.Sets[i], p, func(a, b api.Place) int { return (a.Cell-b.Cell)*10 + a.Band - b.Band })
	switch r.IntN(8) {
	case 0, 1, 2:
		if !is {
			b.Sets[i] = slices.Insert(b.Sets[i], at, p)
		}
	case 3:
		if len(b.Sets[i]) > 0 {
			k := r.IntN(len(b.Sets[i]))
			b.Sets[i] = slices.Delete(b.Sets[i], k, k+1)
		}
	case 4:
		b.Sets = b.Sets[:i]
	case 5:
		b.Sets = append(b.Sets, slices.Clone(b.Sets[i]))
	case 6:
		slices.Reverse(b.Sets[i])
	default:
		b.Sets[i] = append(b.Sets[i], api.Place{Cell: p.Cell + r.IntN(99) - 49, Band: p.Band + r.IntN(19) - 9})
	}
}

// P2.1, B9, and P2.2: which bars are accepted is what the model says.
func TestCheckBar(t *testing.T) {
	r := rand.New(rand.NewPCG(9, 2))
	accepted, refused := 0, 0
	for range 4000 {
		m, hour := randomModel(r)
		all := m.everywhere()
		to := all[r.IntN(len(all))]
		b, is, _ := drift.BarTo(m.s, m.l, m.known, m.x, m.float, to, hour)
		if !is {
			continue
		}
		if r.IntN(3) == 0 {
			for i := range b.Sets { // as many places as there can be, so that more bars are accepted
				b.Sets[i] = all
				if r.IntN(2) == 0 || i == len(b.Sets)-1 {
					b.Sets[i] = slices.DeleteFunc(slices.Clone(all), func(p api.Place) bool { return p == to })
				}
				b.Sets[i] = slices.Clone(b.Sets[i])
			}
		}
		spoilBar(r, m, &b)
		var kept api.Bar
		for _, list := range b.Sets {
			kept.Sets = append(kept.Sets, slices.Clone(list))
		}
		want := m.isBar(to, hour, b)
		if m.checkBar(t, to, hour, b) != want {
			t.Fatalf("%+v, %v at %d: %+v, want %v", m, to, hour, b, want)
		}
		if !slices.EqualFunc(b.Sets, kept.Sets, slices.Equal) {
			t.Fatal("CheckBar changed the bar")
		}
		if want {
			accepted++
			if _, is, _ := drift.CourseTo(m.s, m.l, m.known, m.x, m.float, to, hour); is {
				t.Fatalf("%+v, %v at %d: a bar %+v beside a course", m, to, hour, b)
			}
		} else {
			refused++
		}
	}
	if accepted < 100 || refused < 500 {
		t.Errorf("%d accepted, %d refused", accepted, refused)
	}
}

// P2.1, B9: bars that are none, one by one.
func TestCheckBarEdges(t *testing.T) {
	m := sample(t)
	m.x.Hours.High = 1
	to := api.Place{Cell: 4}
	good := [][]api.Place{places(1, 2), places(1, 2, 2, 1, 2, 2), places(1, 0, 1, 1, 1, 2, 2, 0, 2, 1, 2, 2)}
	for _, c := range []struct {
		what   string
		hour   int
		change func(sets [][]api.Place) [][]api.Place
		want   bool
	}{
		{"as it is", 2, func(sets [][]api.Place) [][]api.Place { return sets }, true},
		{"wider at the end", 2, func(sets [][]api.Place) [][]api.Place {
			sets[2] = append(sets[2], places(3, 0, 4, 1, 4, 2)...)
			return sets
		}, true},
		{"with the place at the end", 2, func(sets [][]api.Place) [][]api.Place {
			sets[2] = append(sets[2], to)
			return sets
		}, false},
		{"not where it began to drift", 2, func(sets [][]api.Place) [][]api.Place {
			sets[0] = nil
			return sets
		}, false},
		{"not where it began to drift in the last hour", 2, func(sets [][]api.Place) [][]api.Place {
			sets[1] = sets[1][1:]
			return sets
		}, false},
		{"not where it can go", 2, func(sets [][]api.Place) [][]api.Place {
			sets[2] = sets[2][:5]
			return sets
		}, false},
		{"not where it can go from what is too much", 2, func(sets [][]api.Place) [][]api.Place {
			sets[1] = append(sets[1], api.Place{Cell: 3, Band: 2})
			return sets
		}, false},
		{"a place twice", 2, func(sets [][]api.Place) [][]api.Place {
			sets[0] = places(1, 2, 1, 2)
			return sets
		}, false},
		{"not ascending", 2, func(sets [][]api.Place) [][]api.Place {
			sets[1] = places(1, 2, 2, 2, 2, 1)
			return sets
		}, false},
		{"a place beside the sea", 2, func(sets [][]api.Place) [][]api.Place {
			sets[2] = append(places(-1, 2), sets[2]...)
			return sets
		}, false},
		{"a place behind the sea", 2, func(sets [][]api.Place) [][]api.Place {
			sets[2] = append(sets[2], api.Place{Cell: 5})
			return sets
		}, false},
		{"a place away from the sea", 2, func(sets [][]api.Place) [][]api.Place {
			sets[2] = append(sets[2], api.Place{Cell: 2, Band: 3})
			return sets
		}, false},
		{"a place in the land", 2, func(sets [][]api.Place) [][]api.Place {
			sets[2] = append(places(1, -1), sets[2]...)
			return sets
		}, false},
		{"a place nowhere", 2, func(sets [][]api.Place) [][]api.Place {
			sets[2] = append(sets[2], api.Place{Cell: 1 << 62, Band: -1 << 62})
			return sets
		}, false},
		{"an hour too few", 2, func(sets [][]api.Place) [][]api.Place { return sets[:2] }, false},
		{"an hour too many", 1, func(sets [][]api.Place) [][]api.Place { return sets }, false},
		{"no hours", 0, func(sets [][]api.Place) [][]api.Place { return nil }, false},
	} {
		var sets [][]api.Place
		for _, list := range good {
			sets = append(sets, slices.Clone(list))
		}
		if m.checkBar(t, to, c.hour, api.Bar{Sets: c.change(sets)}) != c.want {
			t.Errorf("%s: not %v", c.what, c.want)
		}
	}
}

// P2.1, P2.2: the greatest sea, many winds, and the last hour that is asked.
func TestGreatest(t *testing.T) {
	m := model{s: greatest(), known: 1000, float: 1, x: api.Loss{Id: 20, Cells: api.Range{Low: 20, High: 22}, Bands: api.Range{Low: 2, High: 6}, Hours: api.Range{Low: 7, High: 90}}}
	r := rand.New(rand.NewPCG(200, 2))
	for i := range 200 {
		x := api.Wind{Id: i + 1, Known: i, From: i, Until: i + 9, Along: randomRange(r, -1, 1), Ashore: randomRange(r, -1, 0)}
		m.l = append(m.l, x)
	}
	reach := m.driftReach(t, 207)
	for hour := 7; hour < 207; hour += 23 {
		same(t, "Reach an hour later", m.driftReach(t, hour+1), m.later(t, m.driftReach(t, hour), hour))
	}
	proofs := 0
	for _, to := range m.everywhere() {
		if (to.Cell*7+to.Band)%13 > 0 {
			continue
		}
		c, can, _ := drift.CourseTo(m.s, m.l, m.known, m.x, m.float, to, 207)
		b, cannot, _ := drift.BarTo(m.s, m.l, m.known, m.x, m.float, to, 207)
		if can == cannot || can != m.checkCourse(t, to, 207, c) || cannot != m.checkBar(t, to, 207, b) || can != slices.Contains(reach, to) {
			t.Errorf("%v: course %v, bar %v", to, can, cannot)
		}
		if _, is, _ := drift.Lineage(m.s, m.l, m.known, m.x, m.float, to, 207); is != cannot {
			t.Errorf("%v: lineage %v, bar %v", to, is, cannot)
		}
		proofs++
	}
	if proofs < 20 {
		t.Errorf("only %d places", proofs)
	}
	if got, e := drift.Before(m.s, m.l, m.known, m.float, api.Place{Cell: 39, Band: 6}, 207, 200); len(got) == 0 || e != api.OK {
		t.Errorf("Before: %v, error %d", got, e)
	}
}

// later returns where packages can be an hour later than at some places, by Moves and by where they begin.
func (m model) later(t testing.TB, from []api.Place, hour int) []api.Place {
	t.Helper()
	led := map[api.Place]bool{}
	for _, p := range from {
		moves, e := drift.Moves(m.s, m.l, m.known, m.float, p, hour)
		fine(t, "Moves", e)
		for _, q := range moves {
			led[q] = true
		}
	}
	return slices.DeleteFunc(m.everywhere(), func(p api.Place) bool { return !led[p] && !m.began(p, hour+1) })
}
