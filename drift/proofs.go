package drift

import (
	"slices"

	"lagan/api"
)

// CourseTo returns a course of a package of a loss to a place at an hour, and whether there is one.
func CourseTo(s api.Sea, l []api.Wind, known int, x api.Loss, float uint8, to api.Place, hour int) (api.Course, bool, api.Errno) {
	if e := checkAskedAt(s, l, x, float, to, hour); e != api.OK {
		return api.Course{}, false, e
	}
	w := newWater(s, counting(l, known), float)
	sets := w.sets(x, hour)
	if !sets[len(sets)-1].has(to) {
		return api.Course{}, false, api.OK
	}
	c := api.Course{From: hour, Places: []api.Place{to}}
	at := to
back:
	for ; c.From > x.Hours.Low; c.From-- {
		for p := range sets[c.From-1-x.Hours.Low].places() {
			if w.after(only(p), c.From-1).has(at) {
				at = p
				c.Places = append(c.Places, at)
				continue back
			}
		}
		break back // it came from nowhere: it began to drift here
	}
	slices.Reverse(c.Places)
	return c, true, api.OK
}

// CheckCourse reports whether this is a course of a package of a loss to a place at an hour.
func CheckCourse(s api.Sea, l []api.Wind, known int, x api.Loss, float uint8, to api.Place, hour int, c api.Course) (bool, api.Errno) {
	if e := checkAskedAt(s, l, x, float, to, hour); e != api.OK {
		return false, e
	}
	if !within(c.From, x.Hours.Low, min(x.Hours.High, hour)) || len(c.Places) != hour-c.From+1 {
		return false, api.OK
	}
	w := newWater(s, counting(l, known), float)
	can := starts(x, c.From)
	for i, p := range c.Places {
		if !isPlace(s, p) || !can.has(p) {
			return false, api.OK
		}
		can = w.after(only(p), c.From+i)
	}
	return c.Places[len(c.Places)-1] == to, api.OK
}

// BarTo returns a bar against a place at an hour, and whether there is one.
func BarTo(s api.Sea, l []api.Wind, known int, x api.Loss, float uint8, to api.Place, hour int) (api.Bar, bool, api.Errno) {
	if e := checkAskedAt(s, l, x, float, to, hour); e != api.OK {
		return api.Bar{}, false, e
	}
	sets := newWater(s, counting(l, known), float).sets(x, hour)
	if sets[len(sets)-1].has(to) {
		return api.Bar{}, false, api.OK
	}
	var b api.Bar
	for _, a := range sets {
		b.Sets = append(b.Sets, a.list())
	}
	return b, true, api.OK
}

// CheckBar reports whether this is a bar against a place at an hour.
func CheckBar(s api.Sea, l []api.Wind, known int, x api.Loss, float uint8, to api.Place, hour int, b api.Bar) (bool, api.Errno) {
	if e := checkAskedAt(s, l, x, float, to, hour); e != api.OK {
		return false, e
	}
	if len(b.Sets) != hour-x.Hours.Low+1 {
		return false, api.OK
	}
	w := newWater(s, counting(l, known), float)
	due := starts(x, x.Hours.Low)
	last := due
	for i, list := range b.Sets {
		last = setOf(s, list)
		// A set lists its places in order, so that only an ascending list of places is its own list.
		if !same(last.list(), list) || !due.isIn(last) {
			return false, api.OK
		}
		h := x.Hours.Low + i
		due = w.after(last, h).both(starts(x, h+1))
	}
	return !last.has(to), api.OK
}
