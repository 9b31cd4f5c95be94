package drift

import (
	"slices"

	"lagan/api"
)

// maxWind is how far a wind pushes at most.
const maxWind = 2

// CheckWind returns ErrArg for a record that is not as the chapter says by itself.
func CheckWind(x api.Wind) api.Errno {
	formed := false
	if x.Of == 0 {
		formed = 0 <= x.From && x.From <= x.Until && x.Until <= api.MaxHour &&
			rangeWithin(x.Along, -maxWind, maxWind) && rangeWithin(x.Ashore, -maxWind, maxWind)
	} else {
		formed = within(x.Of, 1, api.MaxId) && x == api.Wind{Id: x.Id, Known: x.Known, Of: x.Of}
	}
	return errorIf(!formed || !within(x.Id, 1, api.MaxId) || !isHour(x.Known), api.ErrArg)
}

// Check returns 0 and OK for a log, and otherwise the index of the first record that is refused, and its error.
func Check(l []api.Wind) (int, api.Errno) {
	isWind := map[int]bool{} // by the Ids of the records before; false for withdrawals
	withdrawn := map[int]bool{}
	known := 0
	for i, x := range l {
		_, twice := isWind[x.Id]
		e := firstOf(
			errorIf(i == api.MaxWinds, api.ErrLimit),
			CheckWind(x),
			errorIf(twice, api.ErrTwice),
			errorIf(x.Known < known, api.ErrTime),
			errorIf(x.Of != 0 && !isWind[x.Of], api.ErrNone),
			errorIf(x.Of != 0 && withdrawn[x.Of], api.ErrTwice),
		)
		if e != api.OK {
			return i, e
		}
		isWind[x.Id] = x.Of == 0
		withdrawn[x.Of] = true
		known = x.Known
	}
	return 0, api.OK
}

// Append returns a log with a record at its end.
func Append(l []api.Wind, x api.Wind) ([]api.Wind, api.Errno) {
	longer := make([]api.Wind, 0, len(l)+1)
	longer = append(longer, l...)
	longer = append(longer, x)
	if e := checkLog(longer); e != api.OK {
		return nil, e
	}
	return longer, api.OK
}

// Counting returns the winds of a log that count, in its order.
func Counting(l []api.Wind, known int) ([]api.Wind, api.Errno) {
	if e := checkLog(l); e != api.OK {
		return nil, e
	}
	return counting(l, known), api.OK
}

func counting(l []api.Wind, known int) []api.Wind {
	withdrawn := map[int]bool{}
	for _, x := range l {
		if x.Of != 0 && x.Known <= known {
			withdrawn[x.Of] = true
		}
	}
	var out []api.Wind
	for _, x := range l {
		if x.Of == 0 && x.Known <= known && !withdrawn[x.Id] {
			out = append(out, x)
		}
	}
	return out
}

// WindAt returns the wind of an hour, and whether there is one.
func WindAt(l []api.Wind, known, hour int) (api.Wind, bool, api.Errno) {
	if e := firstOf(checkLog(l), checkHour(hour)); e != api.OK {
		return api.Wind{}, false, e
	}
	x, is := windOf(counting(l, known))(hour)
	return x, is, api.OK
}

// windOf returns what finds the wind of an hour among winds that count.
func windOf(winds []api.Wind) func(hour int) (api.Wind, bool) {
	return func(hour int) (api.Wind, bool) {
		for _, x := range slices.Backward(winds) {
			if within(hour, x.From, x.Until) {
				return x, true
			}
		}
		return api.Wind{}, false
	}
}
