package post

import (
	"cmp"
	"slices"

	"lagan/api"
)

// The bytes that a text can have.
const (
	firstByte = ' '
	lastByte  = '~'
)

// CheckRecord returns ErrArg if n is no number of stations, or a record is not well-formed for it.
func CheckRecord(n int, x api.Record) api.Errno {
	if areStations(n) && within(x.Station, 0, n-1) && isNumber(x.Number) && isHour(x.Hour) && isText(x.Text) {
		return api.OK
	}
	return api.ErrArg
}

func isText(s string) bool {
	if !within(len(s), 1, api.MaxText) {
		return false
	}
	for _, b := range []byte(s) {
		if b < firstByte || b > lastByte {
			return false
		}
	}
	return true
}

// CheckRecords returns 0 and OK for a book; otherwise the index of the first record that is refused, and its error.
func CheckRecords(n int, l []api.Record) (int, api.Errno) {
	if !areStations(n) {
		return 0, api.ErrArg
	}
	for i, x := range l {
		if CheckRecord(n, x) != api.OK {
			return i, api.ErrArg
		}
		var before api.Record // none has the Number 0: it is before all others
		if i > 0 {
			before = l[i-1]
		}
		if e := checkBehind(before, x); e != api.OK {
			return i, e
		}
	}
	return 0, api.OK
}

// checkBehind returns the error of a well-formed record just behind another one.
func checkBehind(before, x api.Record) api.Errno {
	if !ascend(before, x) {
		return api.ErrTwice
	}
	if before.Station != x.Station {
		before = api.Record{}
	}
	switch {
	case x.Number != before.Number+1:
		return api.ErrGap
	case x.Hour < before.Hour:
		return api.ErrTime
	}
	return api.OK
}

// ascend reports whether the Ref of a record is less than that of another one.
func ascend(a, b api.Record) bool {
	return cmp.Or(cmp.Compare(a.Station, b.Station), cmp.Compare(a.Number, b.Number)) < 0
}

// IdOf returns the Id of a record; 0 if there is none with this Ref.
func IdOf(x api.Ref) int {
	if !within(x.Station, 0, api.MaxStations-1) || !isNumber(x.Number) {
		return 0
	}
	return api.MaxStations*x.Number + x.Station
}

// RefOf returns the Ref of the record with an Id; ErrArg if there is none.
func RefOf(id int) (api.Ref, api.Errno) {
	x := api.Ref{Station: id % api.MaxStations, Number: id / api.MaxStations}
	if id <= 0 || IdOf(x) != id {
		return api.Ref{}, api.ErrArg
	}
	return x, api.OK
}

// Order returns the records of a book in the one order.
func Order(n int, l []api.Record) ([]api.Record, api.Errno) {
	if _, e := CheckRecords(n, l); e != api.OK {
		return nil, e
	}
	hour := func(x api.Record) int { return x.Hour }
	station := func(x api.Record) int { return x.Station }
	number := func(x api.Record) int { return x.Number }
	return ordered(l, hour, station, number), api.OK
}

// ordered returns things in the order of the numbers that they have, of the first kind of numbers before the others.
func ordered[T any](l []T, numbers ...func(T) int) []T {
	out := slices.Clone(l)
	slices.SortStableFunc(out, func(a, b T) int {
		for _, number := range numbers {
			if c := cmp.Compare(number(a), number(b)); c != 0 {
				return c
			}
		}
		return 0
	})
	return out
}

// Merge returns the book with the records of two books; ErrState if they contradict each other.
func Merge(n int, a, b []api.Record) ([]api.Record, api.Errno) {
	for _, l := range [2][]api.Record{a, b} {
		if _, e := CheckRecords(n, l); e != api.OK {
			return nil, e
		}
	}
	var s shelf
	for _, x := range slices.Concat(a, b) {
		if _, e := s.take(x); e != api.OK {
			return nil, e
		}
	}
	return s.records(), api.OK
}

// Until returns the book with the records of a book whose Hour is at most an hour.
func Until(n int, l []api.Record, hour int) ([]api.Record, api.Errno) {
	if _, e := CheckRecords(n, l); e != api.OK {
		return nil, e
	}
	return chosen(l, func(x api.Record) bool { return x.Hour <= hour }), api.OK
}

func chosen(l []api.Record, is func(api.Record) bool) []api.Record {
	var out []api.Record
	for _, x := range l {
		if is(x) {
			out = append(out, x)
		}
	}
	return out
}

// StockOf returns the stock of a book.
func StockOf(n int, l []api.Record) (api.Stock, api.Errno) {
	if _, e := CheckRecords(n, l); e != api.OK {
		return api.Stock{}, e
	}
	var s api.Stock
	for _, x := range l {
		s.Have[x.Station] = x.Number
	}
	return s, api.OK
}

// Lacks returns the records of a book that somebody with a stock lacks.
func Lacks(n int, l []api.Record, s api.Stock) ([]api.Record, api.Errno) {
	if _, e := CheckRecords(n, l); e != api.OK {
		return nil, e
	}
	return lacking(l, s), api.OK
}

func lacking(l []api.Record, s api.Stock) []api.Record {
	return chosen(l, func(x api.Record) bool { return x.Number > s.Have[x.Station] })
}
