package award

import (
	"iter"

	"lagan/api"
)

// record is what lists are checked by: what rates and sales have in common, and what is sold.
type record struct {
	id, known int
	of        int // 0 but for a void
	parcel    int // 0 but for a sale
}

func (r record) isVoid() bool { return r.of != 0 }

func (r record) isSale() bool { return r.parcel != 0 }

// isFormed reports whether the numbers are as said that rates and sales have in common.
func (r record) isFormed() bool {
	return within(r.id, 1, api.MaxId) && within(r.known, 0, api.MaxHour) && within(r.of, 0, api.MaxId)
}

// check returns 0 and OK for a valid list of at most so many records, and otherwise the index of the first one that
// is refused, and its error.
func check[T any](l []T, most int, checkAlone func(T) api.Errno, recordOf func(T) record) (int, api.Errno) {
	g := ledger{records: map[int]record{}, void: map[int]bool{}, sold: map[int]bool{}}
	for i, x := range l {
		if i == most {
			return i, api.ErrLimit
		}
		e := checkAlone(x)
		if e == api.OK {
			e = g.refusal(recordOf(x))
		}
		if e != api.OK {
			return i, e
		}
		g.enter(recordOf(x))
	}
	return 0, api.OK
}

// ledger is what is remembered of the records before one.
type ledger struct {
	records map[int]record // by Ids
	void    map[int]bool   // the Ids that a void names
	sold    map[int]bool   // the parcels that counting sales have
	known   int            // of the last one
}

// refusal returns the error of a record, which is well-formed, behind those of the ledger.
func (g *ledger) refusal(r record) api.Errno {
	if _, twice := g.records[r.id]; twice {
		return api.ErrTwice
	}
	if r.known < g.known {
		return api.ErrTime
	}
	if r.isVoid() {
		return g.refusalOfVoid(r.of)
	}
	if g.sold[r.parcel] {
		return api.ErrSold
	}
	return api.OK
}

// refusalOfVoid returns the error of a void of the record with an Id.
func (g *ledger) refusalOfVoid(of int) api.Errno {
	named, is := g.records[of]
	if !is || named.isVoid() {
		return api.ErrNone
	}
	if g.void[of] {
		return api.ErrTwice
	}
	return api.OK
}

func (g *ledger) enter(r record) {
	g.records[r.id] = r
	g.known = r.known
	if r.isVoid() {
		g.void[r.of] = true
		// What was known before is known at every later hour, so that the sale never counts again.
		delete(g.sold, g.records[r.of].parcel)
	}
	if r.isSale() {
		g.sold[r.parcel] = true
	}
}

// appended returns a list with a record at its end, if it is valid.
func appended[T any](l []T, x T, checkList func([]T) (int, api.Errno)) ([]T, api.Errno) {
	longer := make([]T, 0, len(l)+1)
	longer = append(longer, l...)
	longer = append(longer, x)
	if _, e := checkList(longer); e != api.OK {
		return nil, e
	}
	return longer, api.OK
}

// counting yields the records of a valid list that count, as they are listed.
func counting[T any](l []T, known int, recordOf func(T) record) iter.Seq[T] {
	return func(yield func(T) bool) {
		void := map[int]bool{}
		for _, x := range l {
			if r := recordOf(x); r.isVoid() && r.known <= known {
				void[r.of] = true
			}
		}
		for _, x := range l {
			r := recordOf(x)
			counts := !r.isVoid() && r.known <= known && !void[r.id]
			if counts && !yield(x) {
				return
			}
		}
	}
}
