package inquiry

import (
	"slices"

	"lagan/api"
	"lagan/drift"
)

// perCell is how many numbers there are for the places of a cell: one for each band, and one for the beach.
const perCell = api.MaxBands + 1

// spot is where and when a package of a loss is asked for, and how it floats.
type spot struct {
	loss  api.Loss
	float uint8
	at    api.Place
	hour  int
}

// spotOf returns the spot of a question, and whether the season has its loss.
func (m matter) spotOf() (spot, bool) {
	i := slices.IndexFunc(m.Season.Losses, func(x api.Loss) bool { return x.Id == m.args[0] })
	if i < 0 {
		return spot{}, false
	}
	s := spot{loss: m.Season.Losses[i], at: api.Place{Cell: m.args[2], Band: m.args[3]}, hour: m.args[4]}
	// A greater number must not become a float by being cut down; 0 is none.
	if m.args[1] == int(api.FloatDeep) || m.args[1] == int(api.FloatHigh) {
		s.float = uint8(m.args[1])
	}
	return s, true
}

func (m matter) refusePlace() api.Errno {
	s, is := m.spotOf()
	if !is {
		return api.ErrNone
	}
	_, e := drift.CheckCourse(m.Season.Sea, m.Winds, m.known, s.loss, s.float, s.at, s.hour, api.Course{})
	return e
}

func (m matter) answerPlace() api.Answer {
	s, _ := m.spotOf()
	c, is, _ := drift.CourseTo(m.Season.Sea, m.Winds, m.known, s.loss, s.float, s.at, s.hour)
	if is {
		var cells, bands []int
		for _, p := range c.Places {
			cells = append(cells, p.Cell)
			bands = append(bands, p.Band)
		}
		return api.Answer{Values: []int{yes}, Proof: [][]int{{c.From}, cells, bands}}
	}
	b, _, _ := drift.BarTo(m.Season.Sea, m.Winds, m.known, s.loss, s.float, s.at, s.hour)
	a := api.Answer{Values: []int{no}}
	for _, set := range b.Sets {
		var l []int
		for _, p := range set {
			l = append(l, perCell*p.Cell+p.Band)
		}
		a.Proof = append(a.Proof, l)
	}
	return a
}

func (m matter) checkPlace(x *exhibit) {
	s, _ := m.spotOf()
	if x.says() {
		is, _ := drift.CheckCourse(m.Season.Sea, m.Winds, m.known, s.loss, s.float, s.at, s.hour, courseOf(x))
		require(is)
		return
	}
	is, _ := drift.CheckBar(m.Season.Sea, m.Winds, m.known, s.loss, s.float, s.at, s.hour, barOf(x))
	require(is)
}

// courseOf returns the course of an exhibit.
func courseOf(x *exhibit) api.Course {
	c := api.Course{From: x.only()}
	cells := x.list()
	bands := x.list()
	require(len(cells) == len(bands))
	for i, cell := range cells {
		c.Places = append(c.Places, api.Place{Cell: cell, Band: bands[i]})
	}
	return c
}

// barOf returns the bar of an exhibit.
func barOf(x *exhibit) api.Bar {
	var b api.Bar
	for len(x.lists) > 0 {
		var set []api.Place
		for _, n := range x.list() {
			// What is less than 0 becomes a place that no sea has.
			set = append(set, api.Place{Cell: n / perCell, Band: n % perCell})
		}
		b.Sets = append(b.Sets, set)
	}
	return b
}
