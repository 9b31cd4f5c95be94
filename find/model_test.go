package find_test

import (
	"math/rand/v2"
	"slices"
	"testing"

	"lagan/api"
	"lagan/find"
)

// The model says what chapter 3 says, as directly as possible, and slowly.

// read returns the reports with some lines, in any order and number.
func read(t testing.TB, lines ...string) []api.Report {
	t.Helper()
	var l []api.Report
	for _, s := range lines {
		x, e := find.Read(s)
		if e != api.OK {
			t.Fatalf("Read(%q): error %d", s, e)
		}
		l = append(l, x)
	}
	return l
}

// sample is the list of the chapter's examples.
func sample(t testing.TB) []api.Report {
	t.Helper()
	return read(t, "1 5 2 found 7 ab? oil 40 60 3", "2 6 3 found 8 abc oil 10 20 4", "3 9 8 divided 10 2",
		"4 12 10 joined 31 20", "5 13 12 weighed 40 35 45", "6 14 11 weighed 30 30 30")
}

// with returns a list with further lines.
func with(t testing.TB, l []api.Report, lines ...string) []api.Report {
	t.Helper()
	return append(slices.Clone(l), read(t, lines...)...)
}

func modelCounts(l []api.Report, x api.Report, known int) bool {
	for _, v := range l {
		if v.Kind == api.ReportVoid && v.Of == x.Id && v.Known <= known {
			return false
		}
	}
	return x.Kind != api.ReportVoid && x.Known <= known
}

func modelCounting(l []api.Report, known int) []api.Report {
	var out []api.Report
	for _, x := range l {
		if modelCounts(l, x, known) {
			out = append(out, x)
		}
	}
	return out
}

func modelMakes(x api.Report) []int {
	switch x.Kind {
	case api.ReportFound, api.ReportJoined:
		return []int{10 * x.Id}
	case api.ReportDivided:
		var out []int
		for n := 10 * x.Id; n < 10*x.Id+x.Count; n++ {
			out = append(out, n)
		}
		return out
	}
	return nil
}

func modelUses(x api.Report) []int {
	switch x.Kind {
	case api.ReportDivided:
		return []int{x.Parcel}
	case api.ReportJoined:
		return x.Parts
	case api.ReportSame:
		return []int{x.Other}
	}
	return nil
}

// modelNeeds returns what a report names and that has to be there.
func modelNeeds(x api.Report) []int {
	switch x.Kind {
	case api.ReportJoined:
		return x.Parts
	case api.ReportSame:
		return []int{x.Parcel, x.Other}
	case api.ReportFound, api.ReportVoid:
		return nil
	}
	return []int{x.Parcel}
}

func modelNames(x api.Report, parcel int) bool {
	return slices.Contains(modelNeeds(x), parcel) || slices.Contains(modelMakes(x), parcel)
}

// modelMaker and modelUser return the report that makes a parcel, or uses it up: one with the Id 0 if there is none.
func modelMaker(counts []api.Report, parcel int) api.Report {
	for _, x := range counts {
		if slices.Contains(modelMakes(x), parcel) {
			return x
		}
	}
	return api.Report{}
}

func modelUser(counts []api.Report, parcel int) api.Report {
	for _, x := range counts {
		if slices.Contains(modelUses(x), parcel) {
			return x
		}
	}
	return api.Report{}
}

func modelThere(counts []api.Report, parcel int) bool {
	return modelMaker(counts, parcel).Id != 0 && modelUser(counts, parcel).Id == 0
}

func modelHidden(counts []api.Report, parcel int) bool {
	hidden := false
	for _, x := range counts {
		if x.Parcel == parcel && x.Kind == api.ReportHidden {
			hidden = true
		}
		if x.Parcel == parcel && x.Kind == api.ReportShown {
			hidden = false
		}
	}
	return hidden
}

// modelRefusal returns the error of a well-formed report behind others.
func modelRefusal(l []api.Report, x api.Report) api.Errno {
	if len(l) >= 200 {
		return api.ErrLimit
	}
	for _, y := range l {
		if y.Id == x.Id {
			return api.ErrTwice
		}
	}
	if len(l) > 0 && x.Known < l[len(l)-1].Known {
		return api.ErrTime
	}
	counts := modelCounting(l, x.Known)
	if x.Kind == api.ReportVoid {
		return modelVoidRefusal(counts, x.Of)
	}
	for _, parcel := range modelNeeds(x) {
		if !modelThere(counts, parcel) || x.Kind == api.ReportSame && modelMaker(counts, parcel).Kind != api.ReportFound {
			return api.ErrParcel
		}
	}
	for _, parcel := range modelNeeds(x) {
		if modelHidden(counts, parcel) != (x.Kind == api.ReportShown) {
			return api.ErrHidden
		}
	}
	for _, y := range counts {
		for _, parcel := range modelNeeds(x) {
			if modelNames(y, parcel) && x.Hour < y.Hour {
				return api.ErrTime
			}
		}
	}
	if x.Kind == api.ReportSame && modelMaker(counts, x.Parcel).Goods != modelMaker(counts, x.Other).Goods {
		return api.ErrState
	}
	return api.OK
}

func modelVoidRefusal(counts []api.Report, of int) api.Errno {
	behind, found := false, api.Report{}
	for _, y := range counts {
		if y.Id == of {
			behind, found = true, y
			continue
		}
		for _, parcel := range append(slices.Clone(modelNeeds(found)), modelMakes(found)...) {
			if behind && found.Kind != api.ReportWeighed && modelNames(y, parcel) {
				return api.ErrState
			}
		}
	}
	if !behind {
		return api.ErrNone
	}
	return api.OK
}

// modelBecame reports whether a parcel is or became another one.
func modelBecame(counts []api.Report, parcel, other int) bool {
	x := modelUser(counts, parcel)
	return parcel == other || x.Kind == api.ReportSame && modelBecame(counts, x.Parcel, other)
}

// modelSays returns the parcel of which a report says a weight, and 0 if it says none.
func modelSays(x api.Report) int {
	switch x.Kind {
	case api.ReportFound:
		return 10 * x.Id
	case api.ReportWeighed:
		return x.Parcel
	}
	return 0
}

// modelLooks returns the Goods and the Mark of a parcel.
func modelLooks(counts []api.Report, parcel int) (goods, mark string) {
	x := modelMaker(counts, parcel)
	switch x.Kind {
	case api.ReportFound:
		return x.Goods, x.Mark
	case api.ReportDivided:
		return modelLooks(counts, x.Parcel)
	}
	goods, mark = modelLooks(counts, x.Parts[0])
	for _, part := range x.Parts {
		g, m := modelLooks(counts, part)
		if g != goods {
			goods = "mixed"
		}
		if m != mark {
			mark = ""
		}
	}
	return goods, mark
}

func modelParcel(counts []api.Report, parcel int) api.Parcel {
	maker, user := modelMaker(counts, parcel), modelUser(counts, parcel)
	p := api.Parcel{Id: parcel, From: maker.Id, Into: user.Id, Hour: maker.Hour, Weight: api.Span{Low: 1, High: 100000000}}
	p.Found = maker.Kind == api.ReportFound
	if p.Found {
		p.Cell, p.Finder = maker.Cell, maker.Party
	}
	p.Hidden = user.Id == 0 && modelHidden(counts, parcel)
	p.Goods, p.Mark = modelLooks(counts, parcel)
	for _, x := range counts {
		if of := modelSays(x); of != 0 && modelBecame(counts, of, parcel) {
			p.Weight.Low = max(p.Weight.Low, x.Weight.Low)
			p.Weight.High = min(p.Weight.High, x.Weight.High)
		}
	}
	return p
}

// modelParcels returns all parcels, by Ids.
func modelParcels(counts []api.Report) []api.Parcel {
	var ids []int
	for _, x := range counts {
		for _, parcel := range modelMakes(x) {
			if modelUser(counts, parcel).Kind != api.ReportSame {
				ids = append(ids, parcel)
			}
		}
	}
	slices.Sort(ids)
	var out []api.Parcel
	for _, parcel := range ids {
		out = append(out, modelParcel(counts, parcel))
	}
	return out
}

func modelMoves(counts []api.Report) []int {
	var out []int
	for _, x := range counts {
		if x.Kind == api.ReportDivided || x.Kind == api.ReportJoined {
			out = append(out, x.Id)
		}
	}
	slices.Sort(out)
	return out
}

// modelLies returns whether a parcel enters a side, and whether it leaves it.
func modelLies(p api.Parcel, side []int) (enters, leaves bool) {
	from, to := !p.Found && slices.Contains(side, p.From), slices.Contains(side, p.Into)
	return to && !from, from && !to
}

// modelSum returns the sum that a side shows for a parcel, and whether it shows one.
func modelSum(parcels []api.Parcel, p api.Parcel, upper bool, side []int) (int, bool) {
	much := func(p api.Parcel) int {
		if upper {
			return p.Weight.High
		}
		return p.Weight.Low
	}
	little := func(p api.Parcel) int { return p.Weight.Low + p.Weight.High - much(p) }
	if len(side) == 0 {
		return much(p), true
	}
	enters, leaves := modelLies(p, side)
	sum := 0
	for _, q := range parcels {
		in, out := modelLies(q, side)
		switch {
		case enters && out, leaves && in:
			sum += much(q)
		case q.Id != p.Id && (enters && in || leaves && out):
			sum -= little(q)
		}
	}
	return sum, enters || leaves
}

// modelSides returns all sides.
func modelSides(moves []int) [][]int {
	out := [][]int{nil}
	for _, id := range moves {
		for _, side := range out[:len(out):len(out)] {
			out = append(out, append(slices.Clone(side), id))
		}
	}
	return out
}

// modelEnds returns the ends of a parcel as all sides show them.
func modelEnds(parcels []api.Parcel, p api.Parcel, sides [][]int) api.Span {
	ends := p.Weight
	for _, side := range sides {
		if n, is := modelSum(parcels, p, true, side); is {
			ends.High = min(ends.High, n)
		}
		if n, is := modelSum(parcels, p, false, side); is {
			ends.Low = max(ends.Low, n)
		}
	}
	return ends
}

// modelIsConflict reports whether a parcel and a side, which is one, are a conflict.
func modelIsConflict(parcels []api.Parcel, c api.Conflict) bool {
	if c.Parcel != 0 {
		return len(c.Side) == 0 && slices.ContainsFunc(parcels, func(p api.Parcel) bool {
			return p.Id == c.Parcel && p.Weight.Low > p.Weight.High
		})
	}
	var in, out api.Span
	for _, p := range parcels {
		enters, leaves := modelLies(p, c.Side)
		if enters {
			in = api.Span{Low: in.Low + p.Weight.Low, High: in.High + p.Weight.High}
		}
		if leaves {
			out = api.Span{Low: out.Low + p.Weight.Low, High: out.High + p.Weight.High}
		}
	}
	return in.Low > out.High || out.Low > in.High
}

// modelContradict reports whether there is a conflict.
func modelContradict(parcels []api.Parcel, sides [][]int) bool {
	for _, p := range parcels {
		if modelIsConflict(parcels, api.Conflict{Parcel: p.Id}) {
			return true
		}
	}
	return slices.ContainsFunc(sides, func(side []int) bool { return modelIsConflict(parcels, api.Conflict{Side: side}) })
}

// modelBalanced reports whether weights are balanced.
func modelBalanced(parcels []api.Parcel, moves, x []int) bool {
	if len(x) != len(parcels) {
		return false
	}
	for i, p := range parcels {
		if x[i] < p.Weight.Low || x[i] > p.Weight.High {
			return false
		}
	}
	for _, id := range moves {
		sum := 0
		for i, p := range parcels {
			if p.Into == id {
				sum += x[i]
			}
			if p.From == id {
				sum -= x[i]
			}
		}
		if sum != 0 {
			return false
		}
	}
	return true
}

// modelChains returns all chains that begin with the move that uses a parcel up, and end with one that makes another one.
func modelChains(parcels []api.Parcel, from, to int) [][]int {
	if from == to {
		return [][]int{nil}
	}
	var out [][]int
	at := func(id int) api.Parcel {
		return parcels[slices.IndexFunc(parcels, func(p api.Parcel) bool { return p.Id == id })]
	}
	var follow func(chain []int, move int)
	follow = func(chain []int, move int) {
		if move == 0 {
			return
		}
		chain = append(slices.Clone(chain), move)
		next := map[int]bool{}
		for _, p := range parcels {
			if p.From == move && p.Id == to {
				out = append(out, chain)
			}
			if p.From == move {
				next[p.Into] = true
			}
		}
		for id := range next {
			follow(chain, id)
		}
	}
	follow(nil, at(from).Into)
	slices.SortFunc(out, func(a, b []int) int {
		if len(a) != len(b) {
			return len(a) - len(b)
		}
		return slices.Compare(a, b)
	})
	return out
}

// writer writes random reports, of which most are admissible, and says weights that most often are true.
type writer struct {
	r     *rand.Rand
	l     []api.Report
	truth map[int]int // what parcels weigh
	most  int         // what a find weighs at most
	wrong float64     // how often what is said is not true
}

func newWriter(r *rand.Rand, most int, wrong float64) *writer {
	return &writer{r: r, truth: map[int]int{}, most: most, wrong: wrong}
}

func (w *writer) known() int {
	if len(w.l) == 0 {
		return 0
	}
	return w.l[len(w.l)-1].Known
}

// pick returns a parcel: nearly always one that is there.
func (w *writer) pick() int {
	var there, all []int
	counts := modelCounting(w.l, w.known())
	for _, x := range counts {
		for _, parcel := range modelMakes(x) {
			all = append(all, parcel)
			if modelThere(counts, parcel) {
				there = append(there, parcel)
			}
		}
	}
	switch {
	case len(all) == 0 || w.r.IntN(40) == 0:
		return 10 + w.r.IntN(400)
	case len(there) == 0 || w.r.IntN(20) == 0:
		return all[w.r.IntN(len(all))]
	}
	return there[w.r.IntN(len(there))]
}

// pickFound returns a found parcel where it can.
func (w *writer) pickFound() int {
	for range 20 {
		parcel := w.pick()
		if modelMaker(modelCounting(w.l, w.known()), parcel).Kind == api.ReportFound {
			return parcel
		}
	}
	return w.pick()
}

// span returns what can be said of a weight.
func (w *writer) span(weight int) api.Span {
	if w.r.Float64() < w.wrong {
		weight = 1 + w.r.IntN(w.most)
	}
	low := max(1, weight-w.r.IntN(3))
	return api.Span{Low: low, High: max(low, weight+w.r.IntN(3))}
}

// report returns a well-formed report with a new Id and mostly the hours that there can be.
func (w *writer) report() api.Report {
	r := w.r
	x := api.Report{Id: 1 + r.IntN(300), Known: max(0, w.known()+r.IntN(4)-r.IntN(30)/29), Kind: uint8(1 + r.IntN(8))}
	x.Hour = max(0, x.Known-r.IntN(3)*r.IntN(2))
	weight := 1 + r.IntN(w.most)
	switch x.Kind {
	case api.ReportFound:
		x.Cell, x.Party = r.IntN(40), 1+r.IntN(40)
		x.Mark = []string{"ab?", "abc", "x"}[r.IntN(3)]
		x.Goods = []string{"oil", "oil", "oil", "wool"}[r.IntN(4)]
		x.Weight = w.span(weight)
		w.truth[10*x.Id] = weight
	case api.ReportDivided:
		x.Parcel, x.Count = w.pick(), 2+r.IntN(2)
	case api.ReportJoined:
		for range 50 {
			if parcel := w.pick(); len(x.Parts) < 2+r.IntN(2) && !slices.Contains(x.Parts, parcel) {
				x.Parts = append(x.Parts, parcel)
			}
		}
	case api.ReportWeighed:
		x.Parcel = w.pick()
		x.Weight = w.span(max(1, w.truth[x.Parcel]))
	case api.ReportHidden, api.ReportShown:
		x.Parcel, x.Party = w.pick(), 1+r.IntN(40)
	case api.ReportSame:
		x.Parcel, x.Other = w.pickFound(), w.pickFound()
	case api.ReportVoid:
		x.Hour, x.Of = 0, 1+r.IntN(300)
		if len(w.l) > 0 && r.IntN(10) > 0 {
			x.Of = w.l[r.IntN(len(w.l))].Id
		}
	}
	return x
}

// enter enters a report that is admissible, and decides what the parcels weigh that it makes.
func (w *writer) enter(x api.Report) {
	w.l = append(w.l, x)
	switch x.Kind {
	case api.ReportDivided:
		left := w.truth[x.Parcel]
		for i, parcel := range modelMakes(x) {
			more := x.Count - 1 - i
			weight := left
			if more > 0 {
				weight = 1 + w.r.IntN(max(1, left-more))
			}
			w.truth[parcel] = weight
			left -= weight
		}
	case api.ReportJoined:
		sum := 0
		for _, part := range x.Parts {
			sum += w.truth[part]
		}
		w.truth[10*x.Id] = sum
	}
}

// list writes a valid list of a length.
func (w *writer) list(length int) []api.Report {
	for tries := 0; len(w.l) == 0 || len(w.l) < length && tries < 20*length; tries++ {
		if x := w.report(); find.CheckReport(x) == api.OK && modelRefusal(w.l, x) == api.OK {
			w.enter(x)
		}
	}
	return w.l
}

// hours returns hours of knowledge of which a list says different things.
func hours(l []api.Report) []int {
	out := []int{-1, 1000001}
	for _, x := range l {
		out = append(out, x.Known-1, x.Known)
	}
	slices.Sort(out)
	return slices.Compact(out)
}
