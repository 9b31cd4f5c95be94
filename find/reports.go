package find

import (
	"iter"
	"slices"

	"lagan/api"
)

// leastParts is into how many parcels one is divided at least, and how many are joined at least.
const leastParts = 2

// CheckReport returns ErrArg for a report that is not well-formed.
func CheckReport(x api.Report) api.Errno {
	timed := within(x.Known, 0, api.MaxHour) && within(x.Hour, 0, x.Known)
	if !timed || !within(x.Id, 1, api.MaxId) || !isFormed(x) {
		return api.ErrArg
	}
	return api.OK
}

// isFormed reports whether the fields that the Kind of a report uses are as said, and the others empty.
func isFormed(x api.Report) bool {
	rest, formed := x, false
	switch x.Kind {
	case api.ReportFound:
		rest.Cell, rest.Mark, rest.Goods, rest.Weight, rest.Party = 0, "", "", api.Span{}, 0
		formed = within(x.Cell, 0, api.MaxCells-1) && isMark(x.Mark) && isName(x.Goods) && isWeight(x.Weight) && isParty(x.Party)
	case api.ReportDivided:
		rest.Parcel, rest.Count = 0, 0
		formed = isNumber(x.Parcel) && within(x.Count, leastParts, api.MaxDivide)
	case api.ReportJoined:
		rest.Parts = nil
		formed = areParts(x.Parts)
	case api.ReportWeighed:
		rest.Parcel, rest.Weight = 0, api.Span{}
		formed = isNumber(x.Parcel) && isWeight(x.Weight)
	case api.ReportHidden, api.ReportShown:
		rest.Parcel, rest.Party = 0, 0
		formed = isNumber(x.Parcel) && isParty(x.Party)
	case api.ReportSame:
		rest.Parcel, rest.Other = 0, 0
		formed = isNumber(x.Parcel) && isNumber(x.Other) && x.Parcel != x.Other
	case api.ReportVoid:
		rest.Of = 0
		formed = within(x.Of, 1, api.MaxId) && x.Of != x.Id && x.Hour == 0
	}
	return formed && isEmpty(rest)
}

func areParts(parts []int) bool {
	return within(len(parts), leastParts, api.MaxDivide) && len(setOf(parts)) == len(parts) &&
		within(slices.Min(parts), minNumber, maxNumber) && within(slices.Max(parts), minNumber, maxNumber)
}

// isEmpty reports whether all fields are empty that some Kind does not use.
func isEmpty(x api.Report) bool {
	return x.Parcel == 0 && x.Count == 0 && len(x.Parts) == 0 && x.Cell == 0 && x.Mark == "" && x.Goods == "" &&
		x.Weight == api.Span{} && x.Party == 0 && x.Other == 0 && x.Of == 0
}

func isMove(x api.Report) bool { return x.Kind == api.ReportDivided || x.Kind == api.ReportJoined }

// made yields the parcels that a report makes.
func made(x api.Report) iter.Seq[int] {
	return func(yield func(parcel int) bool) {
		count := 0
		switch x.Kind {
		case api.ReportFound, api.ReportJoined:
			count = 1
		case api.ReportDivided:
			count = x.Count
		}
		for i := range count {
			if !yield(perReport*x.Id + i) {
				return
			}
		}
	}
}

// touched yields the parcels that have to be there for a report.
func touched(x api.Report) iter.Seq[int] {
	return func(yield func(parcel int) bool) {
		for _, id := range x.Parts {
			if !yield(id) {
				return
			}
		}
		for _, id := range [2]int{x.Parcel, x.Other} {
			if id != 0 && !yield(id) {
				return
			}
		}
	}
}

// named yields the parcels that a report names.
func named(x api.Report) iter.Seq[int] {
	return func(yield func(parcel int) bool) {
		for id := range touched(x) {
			if !yield(id) {
				return
			}
		}
		made(x)(yield)
	}
}

// weighed returns the parcel of which a report says a weight, and whether it says one.
func weighed(x api.Report) (int, bool) {
	switch x.Kind {
	case api.ReportFound:
		return perReport * x.Id, true
	case api.ReportWeighed:
		return x.Parcel, true
	}
	return 0, false
}
