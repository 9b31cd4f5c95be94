package drift

import "lagan/api"

// water is what moves packages that float alike: a sea, and its winds.
type water struct {
	sea   api.Sea
	wind  func(hour int) (api.Wind, bool)
	float int
}

// newWater returns the water of a sea with some winds that count.
func newWater(s api.Sea, winds []api.Wind, float uint8) water {
	return water{s, windOf(winds), int(float)}
}

// CheckLoss returns the error of CheckSea, then ErrArg for a loss that is not as the chapter says.
func CheckLoss(s api.Sea, x api.Loss) api.Errno {
	formed := within(x.Id, 1, api.MaxLosses) &&
		rangeWithin(x.Cells, 0, s.Cells-1) &&
		rangeWithin(x.Bands, 1, s.Bands) &&
		rangeWithin(x.Hours, 0, api.MaxHour)
	return firstOf(CheckSea(s), errorIf(!formed, api.ErrArg))
}

// Moves returns the places to which a package can go in an hour, in order.
func Moves(s api.Sea, l []api.Wind, known int, float uint8, at api.Place, hour int) ([]api.Place, api.Errno) {
	e := firstOf(CheckSea(s), checkLog(l), checkFloat(float), checkPlace(s, at), checkHour(hour))
	if e != api.OK {
		return nil, e
	}
	return newWater(s, counting(l, known), float).after(only(at), hour).list(), api.OK
}

// pushes returns how far the wind of an hour can push along the shore, and towards it.
func (w water) pushes(hour int) (along, ashore api.Range) {
	if x, is := w.wind(hour); is {
		return x.Along, x.Ashore
	}
	unknown := api.Range{Low: -maxWind, High: maxWind}
	return unknown, unknown
}

// after returns the places to which packages can go in an hour from those of a set.
func (w water) after(from set, hour int) set {
	tide := w.sea.Tides[hour%len(w.sea.Tides)]
	along, ashore := w.pushes(hour)
	var to set
	for cell, bands := range from[:w.sea.Cells] {
		if bands&beachBit != 0 {
			to[cell] |= beachBit
			if tide.Height >= w.sea.Heights[cell] {
				to[cell] |= bandBit(1)
			}
		}
		reached := w.pushed(bands, ashore)
		for n := along.Low; n <= along.High; n++ {
			to[clamp(cell+tide.Along+n*w.float, w.sea.Cells-1)] |= reached
		}
	}
	return to
}

// pushed returns to which bands the wind can push what is afloat in some bands; it moves nothing on the beach.
func (w water) pushed(bands uint8, ashore api.Range) uint8 {
	var to uint8
	for band := 1; bands>>band != 0; band++ {
		if bands&bandBit(band) == 0 {
			continue
		}
		for n := ashore.Low; n <= ashore.High; n++ {
			to |= bandBit(clamp(band-n*w.float, w.sea.Bands))
		}
	}
	return to
}

// clamp returns the number from 0 to high that is next to n.
func clamp(n, high int) int { return min(max(n, 0), high) }

// before returns the places from which packages can go in an hour to one of a set.
func (w water) before(to set, hour int) set {
	var from set
	for cell := range w.sea.Cells {
		for band := range w.sea.Bands + 1 {
			p := only(api.Place{Cell: cell, Band: band})
			if w.after(p, hour).meets(to) {
				from = from.both(p)
			}
		}
	}
	return from
}

// starts returns the places where packages of a loss began to drift at an hour.
func starts(x api.Loss, hour int) set {
	var out set
	if !within(hour, x.Hours.Low, x.Hours.High) {
		return out
	}
	for cell := x.Cells.Low; cell <= x.Cells.High; cell++ {
		for band := x.Bands.Low; band <= x.Bands.High; band++ {
			out[cell] |= bandBit(band)
		}
	}
	return out
}

// sets returns where packages of a loss can be at each hour from the first one of its Hours to some hour.
func (w water) sets(x api.Loss, until int) []set {
	out := []set{starts(x, x.Hours.Low)}
	for hour := x.Hours.Low; hour < until; hour++ {
		next := w.after(out[len(out)-1], hour).both(starts(x, hour+1))
		out = append(out, next)
	}
	return out
}

// reach returns where packages of a loss can be at an hour.
func (w water) reach(x api.Loss, hour int) set {
	sets := w.sets(x, hour)
	return sets[len(sets)-1]
}
