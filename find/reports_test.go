package find_test

import (
	"math"
	"slices"
	"strings"
	"testing"

	"lagan/api"
	"lagan/find"
)

var (
	aFound   = api.Report{Id: 9, Known: 8, Hour: 7, Kind: api.ReportFound, Cell: 6, Mark: "a?9", Goods: "oil", Weight: api.Span{Low: 4, High: 30}, Party: 3}
	aDivided = api.Report{Id: 9, Known: 8, Hour: 7, Kind: api.ReportDivided, Parcel: 60, Count: 5}
	aJoined  = api.Report{Id: 9, Known: 8, Hour: 7, Kind: api.ReportJoined, Parts: []int{60, 50, 71}}
	aWeighed = api.Report{Id: 9, Known: 8, Hour: 7, Kind: api.ReportWeighed, Parcel: 60, Weight: api.Span{Low: 4, High: 30}}
	aHidden  = api.Report{Id: 9, Known: 8, Hour: 7, Kind: api.ReportHidden, Parcel: 60, Party: 3}
	aShown   = api.Report{Id: 9, Known: 8, Hour: 7, Kind: api.ReportShown, Parcel: 60, Party: 3}
	aSame    = api.Report{Id: 9, Known: 8, Hour: 7, Kind: api.ReportSame, Parcel: 60, Other: 50}
	aVoid    = api.Report{Id: 9, Known: 8, Kind: api.ReportVoid, Of: 6}
)

func allKinds() []api.Report {
	return []api.Report{aFound, aDivided, aJoined, aWeighed, aHidden, aShown, aSame, aVoid}
}

// allBut returns a report of each kind but some.
func allBut(kinds ...uint8) []api.Report {
	return slices.DeleteFunc(allKinds(), func(x api.Report) bool { return slices.Contains(kinds, x.Kind) })
}

// P3.1, C1: each field within its bounds, and none that the Kind does not use.
func TestCheckReport(t *testing.T) {
	long, name := strings.Repeat("a", 12), strings.Repeat("a", 24)
	all, timed := allKinds(), allBut(api.ReportVoid)
	found := []api.Report{aFound}
	weights := []api.Report{aFound, aWeighed}
	parties := []api.Report{aFound, aHidden, aShown}
	parcels := []api.Report{aDivided, aWeighed, aHidden, aShown, aSame}
	divided, joined, same, void := []api.Report{aDivided}, []api.Report{aJoined}, []api.Report{aSame}, []api.Report{aVoid}
	for _, c := range []struct {
		what   string
		of     []api.Report
		change func(*api.Report)
		want   api.Errno
	}{
		{"as it is", all, func(x *api.Report) {}, api.OK},
		{"Id 0", all, func(x *api.Report) { x.Id = 0 }, api.ErrArg},
		{"Id -1", all, func(x *api.Report) { x.Id = -1 }, api.ErrArg},
		{"Id 1", all, func(x *api.Report) { x.Id = 1 }, api.OK},
		{"Id 1000000", all, func(x *api.Report) { x.Id = 1000000 }, api.OK},
		{"Id 1000001", all, func(x *api.Report) { x.Id = 1000001 }, api.ErrArg},
		{"the greatest Id", all, func(x *api.Report) { x.Id = math.MaxInt }, api.ErrArg},
		{"Known -1", all, func(x *api.Report) { x.Known, x.Hour = -1, 0 }, api.ErrArg},
		{"Known and Hour -1", all, func(x *api.Report) { x.Known, x.Hour = -1, -1 }, api.ErrArg},
		{"Known 0", all, func(x *api.Report) { x.Known, x.Hour = 0, 0 }, api.OK},
		{"Known 1000000", all, func(x *api.Report) { x.Known = 1000000 }, api.OK},
		{"Known 1000001", all, func(x *api.Report) { x.Known = 1000001 }, api.ErrArg},
		{"Hour -1", all, func(x *api.Report) { x.Hour = -1 }, api.ErrArg},
		{"Hour 0", all, func(x *api.Report) { x.Hour = 0 }, api.OK},
		{"Hour Known", timed, func(x *api.Report) { x.Hour = x.Known }, api.OK},
		{"Hour Known", void, func(x *api.Report) { x.Hour = x.Known }, api.ErrArg},
		{"Hour 1", void, func(x *api.Report) { x.Hour = 1 }, api.ErrArg},
		{"Hour behind Known", all, func(x *api.Report) { x.Hour = x.Known + 1 }, api.ErrArg},
		{"Known and Hour 1000000", timed, func(x *api.Report) { x.Known, x.Hour = 1000000, 1000000 }, api.OK},
		{"Known and Hour 1000001", timed, func(x *api.Report) { x.Known, x.Hour = 1000001, 1000001 }, api.ErrArg},
		{"Kind 0", append(all, api.Report{Id: 9, Known: 8}), func(x *api.Report) { x.Kind = 0 }, api.ErrArg},
		{"Kind 9", append(all, api.Report{Id: 9, Known: 8}), func(x *api.Report) { x.Kind = 9 }, api.ErrArg},
		{"Kind 255", all, func(x *api.Report) { x.Kind = 255 }, api.ErrArg},
		{"Cell -1", found, func(x *api.Report) { x.Cell = -1 }, api.ErrArg},
		{"Cell 0", found, func(x *api.Report) { x.Cell = 0 }, api.OK},
		{"Cell 39", found, func(x *api.Report) { x.Cell = 39 }, api.OK},
		{"Cell 40", found, func(x *api.Report) { x.Cell = 40 }, api.ErrArg},
		{"no Mark", found, func(x *api.Report) { x.Mark = "" }, api.ErrArg},
		{"Mark of 12", found, func(x *api.Report) { x.Mark = long }, api.OK},
		{"Mark of 13", found, func(x *api.Report) { x.Mark = long + "a" }, api.ErrArg},
		{"Mark unread", found, func(x *api.Report) { x.Mark = "?" }, api.OK},
		{"Mark az09", found, func(x *api.Report) { x.Mark = "az09" }, api.OK},
		{"Mark A", found, func(x *api.Report) { x.Mark = "aA" }, api.ErrArg},
		{"Mark -", found, func(x *api.Report) { x.Mark = "a-" }, api.ErrArg},
		{"Mark with a blank", found, func(x *api.Report) { x.Mark = "a b" }, api.ErrArg},
		{"no Goods", found, func(x *api.Report) { x.Goods = "" }, api.ErrArg},
		{"Goods of 24", found, func(x *api.Report) { x.Goods = name }, api.OK},
		{"Goods of 25", found, func(x *api.Report) { x.Goods = name + "a" }, api.ErrArg},
		{"Goods a-9-", found, func(x *api.Report) { x.Goods = "a-9-" }, api.OK},
		{"Goods z", found, func(x *api.Report) { x.Goods = "z" }, api.OK},
		{"Goods mixed", found, func(x *api.Report) { x.Goods = "mixed" }, api.OK},
		{"Goods 9a", found, func(x *api.Report) { x.Goods = "9a" }, api.ErrArg},
		{"Goods -a", found, func(x *api.Report) { x.Goods = "-a" }, api.ErrArg},
		{"Goods a?", found, func(x *api.Report) { x.Goods = "a?" }, api.ErrArg},
		{"Goods aA", found, func(x *api.Report) { x.Goods = "aA" }, api.ErrArg},
		{"Low 0", weights, func(x *api.Report) { x.Weight.Low = 0 }, api.ErrArg},
		{"Low -1", weights, func(x *api.Report) { x.Weight.Low = -1 }, api.ErrArg},
		{"Low 1", weights, func(x *api.Report) { x.Weight.Low = 1 }, api.OK},
		{"no Weight", weights, func(x *api.Report) { x.Weight = api.Span{} }, api.ErrArg},
		{"High 100000", weights, func(x *api.Report) { x.Weight.High = 100000 }, api.OK},
		{"High 100001", weights, func(x *api.Report) { x.Weight.High = 100001 }, api.ErrArg},
		{"Low High", weights, func(x *api.Report) { x.Weight.Low = x.Weight.High }, api.OK},
		{"Low above High", weights, func(x *api.Report) { x.Weight.Low = x.Weight.High + 1 }, api.ErrArg},
		{"Party 0", parties, func(x *api.Report) { x.Party = 0 }, api.ErrArg},
		{"Party 1", parties, func(x *api.Report) { x.Party = 1 }, api.OK},
		{"Party 40", parties, func(x *api.Report) { x.Party = 40 }, api.OK},
		{"Party 41", parties, func(x *api.Report) { x.Party = 41 }, api.ErrArg},
		{"Parcel 0", parcels, func(x *api.Report) { x.Parcel = 0 }, api.ErrArg},
		{"Parcel 9", parcels, func(x *api.Report) { x.Parcel = 9 }, api.ErrArg},
		{"Parcel 10", parcels, func(x *api.Report) { x.Parcel = 10 }, api.OK},
		{"Parcel 19", parcels, func(x *api.Report) { x.Parcel = 19 }, api.OK},
		{"Parcel 10000007", parcels, func(x *api.Report) { x.Parcel = 10000007 }, api.OK},
		{"Parcel 10000008", parcels, func(x *api.Report) { x.Parcel = 10000008 }, api.ErrArg},
		{"Count 1", divided, func(x *api.Report) { x.Count = 1 }, api.ErrArg},
		{"Count 2", divided, func(x *api.Report) { x.Count = 2 }, api.OK},
		{"Count 8", divided, func(x *api.Report) { x.Count = 8 }, api.OK},
		{"Count 9", divided, func(x *api.Report) { x.Count = 9 }, api.ErrArg},
		{"the greatest Count", divided, func(x *api.Report) { x.Count = math.MaxInt }, api.ErrArg},
		{"no Parts", joined, func(x *api.Report) { x.Parts = nil }, api.ErrArg},
		{"1 part", joined, func(x *api.Report) { x.Parts = []int{10} }, api.ErrArg},
		{"2 parts", joined, func(x *api.Report) { x.Parts = []int{10000007, 10} }, api.OK},
		{"8 parts", joined, func(x *api.Report) { x.Parts = []int{10, 11, 12, 13, 14, 15, 16, 17} }, api.OK},
		{"9 parts", joined, func(x *api.Report) { x.Parts = []int{10, 11, 12, 13, 14, 15, 16, 17, 18} }, api.ErrArg},
		{"a part twice", joined, func(x *api.Report) { x.Parts = []int{10, 11, 10} }, api.ErrArg},
		{"a part 9", joined, func(x *api.Report) { x.Parts = []int{10, 9} }, api.ErrArg},
		{"a part 0", joined, func(x *api.Report) { x.Parts = []int{0, 10} }, api.ErrArg},
		{"a part 10000008", joined, func(x *api.Report) { x.Parts = []int{10, 10000008} }, api.ErrArg},
		{"Other 9", same, func(x *api.Report) { x.Other = 9 }, api.ErrArg},
		{"Other 10", same, func(x *api.Report) { x.Other = 10 }, api.OK},
		{"Other 10000007", same, func(x *api.Report) { x.Other = 10000007 }, api.OK},
		{"Other 10000008", same, func(x *api.Report) { x.Other = 10000008 }, api.ErrArg},
		{"Other Parcel", same, func(x *api.Report) { x.Other = x.Parcel }, api.ErrArg},
		{"Of 0", void, func(x *api.Report) { x.Of = 0 }, api.ErrArg},
		{"Of -1", void, func(x *api.Report) { x.Of = -1 }, api.ErrArg},
		{"Of 1", void, func(x *api.Report) { x.Of = 1 }, api.OK},
		{"Of 1000000", void, func(x *api.Report) { x.Of = 1000000 }, api.OK},
		{"Of 1000001", void, func(x *api.Report) { x.Of = 1000001 }, api.ErrArg},
		{"Of Id", void, func(x *api.Report) { x.Of = x.Id }, api.ErrArg},
		{"not used: Parcel", []api.Report{aFound, aJoined, aVoid}, func(x *api.Report) { x.Parcel = 10 }, api.ErrArg},
		{"not used: Count", allBut(api.ReportDivided), func(x *api.Report) { x.Count = 2 }, api.ErrArg},
		{"not used: Parts", allBut(api.ReportJoined), func(x *api.Report) { x.Parts = []int{10, 20} }, api.ErrArg},
		{"not used: a part 0", allBut(api.ReportJoined), func(x *api.Report) { x.Parts = []int{0} }, api.ErrArg},
		{"not used: empty Parts", allBut(api.ReportJoined), func(x *api.Report) { x.Parts = []int{} }, api.OK},
		{"not used: Cell", allBut(api.ReportFound), func(x *api.Report) { x.Cell = 1 }, api.ErrArg},
		{"not used: Mark", allBut(api.ReportFound), func(x *api.Report) { x.Mark = "a" }, api.ErrArg},
		{"not used: Goods", allBut(api.ReportFound), func(x *api.Report) { x.Goods = "a" }, api.ErrArg},
		{"not used: Low", allBut(api.ReportFound, api.ReportWeighed), func(x *api.Report) { x.Weight.Low = -1 }, api.ErrArg},
		{"not used: High", allBut(api.ReportFound, api.ReportWeighed), func(x *api.Report) { x.Weight.High = 1 }, api.ErrArg},
		{"not used: Party", []api.Report{aDivided, aJoined, aWeighed, aSame, aVoid}, func(x *api.Report) { x.Party = 1 }, api.ErrArg},
		{"not used: Other", allBut(api.ReportSame), func(x *api.Report) { x.Other = 10 }, api.ErrArg},
		{"not used: Of", allBut(api.ReportVoid), func(x *api.Report) { x.Of = 1 }, api.ErrArg},
	} {
		for _, x := range c.of {
			c.change(&x)
			if e := find.CheckReport(x); e != c.want {
				t.Errorf("%s: %+v: error %d, want %d", c.what, x, e, c.want)
			}
			if s, e := find.Write(x); e != c.want || (s == "") != (c.want != api.OK) {
				t.Errorf("Write, %s: %q, error %d, want %d", c.what, s, e, c.want)
			}
			if i, e := find.Check([]api.Report{x}); c.want != api.OK && (i != 0 || e != c.want) {
				t.Errorf("Check, %s: %d, error %d, want %d", c.what, i, e, c.want)
			}
		}
	}
}
