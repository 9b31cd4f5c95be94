package find

import (
	"slices"

	"lagan/api"
)

// Check returns 0 and OK for a valid list, and otherwise the index of the first report that is refused, and its error.
func Check(l []api.Report) (int, api.Errno) {
	g := ledger{ids: map[int]bool{}, beach: beach{}}
	for i, x := range l {
		if e := g.refusal(x); e != api.OK {
			return i, e
		}
		g.enter(x)
	}
	return 0, api.OK
}

// ledger is what is remembered of the reports before one.
type ledger struct {
	ids    map[int]bool // of all of them
	known  int          // of the last one
	counts []api.Report
	beach  beach // what those say that count
}

// refusal returns the error of a report behind those of the ledger.
func (g *ledger) refusal(x api.Report) api.Errno {
	switch {
	case len(g.ids) == api.MaxReports:
		return api.ErrLimit
	case CheckReport(x) != api.OK:
		return api.ErrArg
	case g.ids[x.Id]:
		return api.ErrTwice
	case x.Known < g.known:
		return api.ErrTime
	case x.Kind == api.ReportVoid:
		return g.refusalOfVoid(x.Of)
	}
	return g.beach.refusal(x)
}

// refusalOfVoid returns the error of a void of a report.
func (g *ledger) refusalOfVoid(of int) api.Errno {
	at := slices.IndexFunc(g.counts, func(x api.Report) bool { return x.Id == of })
	if at < 0 {
		return api.ErrNone
	}
	if g.counts[at].Kind == api.ReportWeighed {
		return api.OK
	}
	parcels := setOf(slices.Collect(named(g.counts[at])))
	for _, x := range g.counts[at+1:] {
		for id := range named(x) {
			if parcels[id] {
				return api.ErrState
			}
		}
	}
	return api.OK
}

func (g *ledger) enter(x api.Report) {
	g.ids[x.Id] = true
	g.known = x.Known
	if x.Kind != api.ReportVoid {
		g.counts = append(g.counts, x)
		g.beach.enter(x)
		return
	}
	g.counts = slices.DeleteFunc(g.counts, func(y api.Report) bool { return y.Id == x.Of })
	g.beach = beachOf(g.counts)
}

func checkList(l []api.Report) api.Errno {
	_, e := Check(l)
	return e
}

// Append returns a list with a report at its end.
func Append(l []api.Report, x api.Report) ([]api.Report, api.Errno) {
	longer := make([]api.Report, 0, len(l)+1)
	longer = append(longer, l...)
	longer = append(longer, x)
	if e := checkList(longer); e != api.OK {
		return nil, e
	}
	return copied(longer), api.OK
}

// copied returns reports that share no memory with others.
func copied(l []api.Report) []api.Report {
	out := slices.Clone(l)
	for i := range out {
		out[i].Parts = slices.Clone(out[i].Parts)
	}
	return out
}

// Counting returns the reports that count, in the order of the list.
func Counting(l []api.Report, known int) ([]api.Report, api.Errno) {
	if e := checkList(l); e != api.OK {
		return nil, e
	}
	return copied(counting(l, known)), api.OK
}

func counting(l []api.Report, known int) []api.Report {
	void := map[int]bool{}
	for _, x := range l {
		if x.Kind == api.ReportVoid && x.Known <= known {
			void[x.Of] = true
		}
	}
	var out []api.Report
	for _, x := range l {
		if x.Kind != api.ReportVoid && x.Known <= known && !void[x.Id] {
			out = append(out, x)
		}
	}
	return out
}
