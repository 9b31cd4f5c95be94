package drift

import (
	"slices"

	"lagan/api"
)

// Reach returns the places where a package of a loss can be at an hour, in order.
func Reach(s api.Sea, l []api.Wind, known int, x api.Loss, float uint8, hour int) ([]api.Place, api.Errno) {
	if e := checkAsked(s, l, x, float, hour); e != api.OK {
		return nil, e
	}
	return newWater(s, counting(l, known), float).reach(x, hour).list(), api.OK
}

// Beaches returns the cells on whose beaches a package of a loss can be at an hour, ascending.
func Beaches(s api.Sea, l []api.Wind, known int, x api.Loss, float uint8, hour int) ([]int, api.Errno) {
	if e := checkAsked(s, l, x, float, hour); e != api.OK {
		return nil, e
	}
	return newWater(s, counting(l, known), float).reach(x, hour).beaches(), api.OK
}

// Landings returns, by ascending cells, the first and the last hour at which a package of a loss can land.
func Landings(s api.Sea, l []api.Wind, known int, x api.Loss, float uint8, until int) ([]api.Landing, api.Errno) {
	if e := checkAsked(s, l, x, float, until); e != api.OK {
		return nil, e
	}
	w := newWater(s, counting(l, known), float)
	landings := map[api.Place]api.Landing{} // by beaches
	sets := w.sets(x, until)
	for i, from := range sets[:len(sets)-1] {
		hour := x.Hours.Low + i
		for _, cell := range w.after(from.afloat(), hour).beaches() {
			beach := api.Place{Cell: cell}
			landing, is := landings[beach]
			if !is {
				landing = api.Landing{Cell: cell, First: hour + 1}
			}
			landing.Last = hour + 1
			landings[beach] = landing
		}
	}
	var out []api.Landing
	for cell := range s.Cells {
		if landing, is := landings[api.Place{Cell: cell}]; is {
			out = append(out, landing)
		}
	}
	return out, api.OK
}

// Before returns, in order, the places from which a package can have come in some hours to a place.
func Before(s api.Sea, l []api.Wind, known int, float uint8, at api.Place, hour, back int) ([]api.Place, api.Errno) {
	e := firstOf(CheckSea(s), checkLog(l), checkFloat(float), checkPlace(s, at), checkHour(hour),
		errorIf(!within(back, 0, min(api.MaxDrift, hour)), api.ErrArg))
	if e != api.OK {
		return nil, e
	}
	w := newWater(s, counting(l, known), float)
	from := only(at)
	for n := range back {
		from = w.before(from, hour-1-n)
	}
	return from.list(), api.OK
}

// Which returns the Ids of the losses of which a package can be at a place at an hour, in the order of the list.
func Which(s api.Sea, l []api.Wind, known int, losses []api.Loss, float uint8, at api.Place, hour int) ([]int, api.Errno) {
	e := firstOf(CheckSea(s), checkLog(l), checkLosses(s, losses), checkFloat(float), checkPlace(s, at), checkHour(hour))
	if e != api.OK {
		return nil, e
	}
	w := newWater(s, counting(l, known), float)
	var ids []int
	for _, x := range losses {
		if !isFar(x, hour) && w.reach(x, hour).has(at) {
			ids = append(ids, x.Id)
		}
	}
	return ids, api.OK
}

// checkLosses returns the error of a list of losses.
func checkLosses(s api.Sea, losses []api.Loss) api.Errno {
	if len(losses) > api.MaxLosses {
		return api.ErrLimit
	}
	seen := map[int]bool{}
	for _, x := range losses {
		if e := CheckLoss(s, x); e != api.OK {
			return e
		}
		seen[x.Id] = true
	}
	return errorIf(len(seen) < len(losses), api.ErrTwice)
}

// Lineage returns the Ids of winds on which it rests that a package of a loss cannot be at a place at an hour,
// ascending, and whether it cannot.
func Lineage(s api.Sea, l []api.Wind, known int, x api.Loss, float uint8, to api.Place, hour int) ([]int, bool, api.Errno) {
	if e := checkAskedAt(s, l, x, float, to, hour); e != api.OK {
		return nil, false, e
	}
	canBe := func(winds []api.Wind) bool {
		return newWater(s, winds, float).reach(x, hour).has(to)
	}
	winds := counting(l, known)
	if canBe(winds) {
		return nil, false, api.OK
	}
	for i := len(winds) - 1; i >= 0; i-- {
		fewer := slices.Delete(slices.Clone(winds), i, i+1)
		if !canBe(fewer) {
			winds = fewer
		}
	}
	var ids []int
	for _, wind := range winds {
		ids = append(ids, wind.Id)
	}
	slices.Sort(ids)
	return ids, true, api.OK
}

// Touched returns, in order, the places where a package of a loss can be at an hour as known at one of two
// hours of knowledge alone.
func Touched(s api.Sea, l []api.Wind, from, to int, x api.Loss, float uint8, hour int) ([]api.Place, api.Errno) {
	if e := checkAsked(s, l, x, float, hour); e != api.OK {
		return nil, e
	}
	a, b := counting(l, from), counting(l, to)
	if same(a, b) {
		return nil, api.OK
	}
	first := newWater(s, a, float).reach(x, hour)
	return first.differing(newWater(s, b, float).reach(x, hour)).list(), api.OK
}
