package find

import (
	"slices"

	"lagan/api"
)

// mixed are the goods of parcels that were joined and had different ones.
const mixed = "mixed"

// thing is a parcel, with what is remembered of it beside. It is used up exactly if Into is not 0.
type thing struct {
	api.Parcel
	was   []int // the numbers of the parcels that became it
	other bool  // it became another one
	named int   // the Hour of the last report that names it, which is the greatest
	until int   // the Hour of the report that uses it up
}

// is reports whether this is the number of the parcel, or of one that became it.
func (p *thing) is(id int) bool { return id == p.Id || slices.Contains(p.was, id) }

func (p *thing) narrow(s api.Span) {
	p.Weight = api.Span{Low: max(p.Weight.Low, s.Low), High: min(p.Weight.High, s.High)}
}

func (p *thing) useUp(by api.Report) {
	p.Into, p.until = by.Id, by.Hour
}

// beach is what reports say that are entered one after the other: all parcels that they make, by their numbers.
type beach map[int]*thing

// beachOf returns what reports say that count.
func beachOf(counts []api.Report) beach {
	b := beach{}
	for _, x := range counts {
		b.enter(x)
	}
	return b
}

// effects returns what reports of the kinds do; a void does nothing by itself.
func effects() [api.ReportVoid]func(beach, api.Report) {
	return [api.ReportVoid]func(beach, api.Report){
		api.ReportFound:   beach.find,
		api.ReportDivided: beach.divide,
		api.ReportJoined:  beach.join,
		api.ReportWeighed: beach.weigh,
		api.ReportHidden:  beach.hide,
		api.ReportShown:   beach.show,
		api.ReportSame:    beach.unite,
	}
}

// enter enters a report that is admissible, and no void.
func (b beach) enter(x api.Report) {
	effects()[x.Kind](b, x)
	for id := range named(x) {
		b[id].named = x.Hour
	}
}

// add adds the parcels that a report makes.
func (b beach) add(x api.Report, mark, goods string) {
	for id := range made(x) {
		b[id] = &thing{Parcel: api.Parcel{Id: id, From: x.Id, Hour: x.Hour, Mark: mark, Goods: goods, Weight: byNature}}
	}
}

func (b beach) find(x api.Report) {
	b.add(x, x.Mark, x.Goods)
	p := b[perReport*x.Id]
	p.Found, p.Cell, p.Finder, p.Weight = true, x.Cell, x.Party, x.Weight
}

func (b beach) divide(x api.Report) {
	p := b[x.Parcel]
	p.useUp(x)
	b.add(x, p.Mark, p.Goods)
}

func (b beach) join(x api.Report) {
	var marks, goods []string
	for _, id := range x.Parts {
		p := b[id]
		p.useUp(x)
		marks = append(marks, p.Mark)
		goods = append(goods, p.Goods)
	}
	b.add(x, common(marks, ""), common(goods, mixed))
}

// common returns what all strings of a list are, and another one if they are not all the same.
func common(l []string, otherwise string) string {
	if len(setOf(l)) == 1 {
		return l[0]
	}
	return otherwise
}

func (b beach) weigh(x api.Report) { b[x.Parcel].narrow(x.Weight) }

func (b beach) hide(x api.Report) { b[x.Parcel].Hidden = true }

func (b beach) show(x api.Report) { b[x.Parcel].Hidden = false }

func (b beach) unite(x api.Report) {
	p, other := b[x.Parcel], b[x.Other]
	other.useUp(x)
	other.other = true
	p.was = append(append(p.was, other.Id), other.was...)
	p.narrow(other.Weight)
}

// refusal returns the error of a well-formed report, that is no void, behind those that were entered.
func (b beach) refusal(x api.Report) api.Errno {
	hidden, early := false, false
	// What a report makes is not there before it, so that no report can use up what it makes itself.
	for id := range touched(x) {
		p, is := b[id]
		if !is || p.Into != 0 || x.Kind == api.ReportSame && !p.Found {
			return api.ErrParcel
		}
		hidden = hidden || p.Hidden != (x.Kind == api.ReportShown)
		early = early || x.Hour < p.named
	}
	switch {
	case hidden:
		return api.ErrHidden
	case early:
		return api.ErrTime
	case x.Kind == api.ReportSame && b[x.Parcel].Goods != b[x.Other].Goods:
		return api.ErrState
	}
	return api.OK
}
