// Package cargo is layer 1, torn manifests: trees of packages as papers tell them, the weights that
// they allow, and the papers on which this rests. See shared/doc/01-cargo.md.
package cargo

import (
	"iter"

	"lagan/api"
)

// CheckPaper returns ErrArg for a paper that is not well-formed.
func CheckPaper(x api.Paper) api.Errno {
	formed := false
	switch x.Kind {
	case api.PaperPackage:
		formed = packageFormed(x)
	case api.PaperTotal:
		formed = totalFormed(x)
	case api.PaperVoid:
		formed = within(x.Of, 1, api.MaxId)
	}
	if !formed || x != used(x) || !within(x.Id, 1, api.MaxId) || !within(x.Known, 0, api.MaxHour) {
		return api.ErrArg
	}
	return api.OK
}

// used returns a paper with the fields alone that its Kind uses.
func used(x api.Paper) api.Paper {
	y := api.Paper{Id: x.Id, Known: x.Known, Kind: x.Kind}
	switch x.Kind {
	case api.PaperPackage:
		y = x
		y.Count, y.Of = 0, 0
	case api.PaperTotal:
		y.Loss, y.Pack, y.Count, y.Weight = x.Loss, x.Pack, x.Count, x.Weight
	case api.PaperVoid:
		y.Of = x.Of
	}
	return y
}

func packageFormed(x api.Paper) bool {
	return within(x.Loss, 1, api.MaxLosses) &&
		within(x.Pack, 1, api.MaxPacks) &&
		within(x.In, 0, api.MaxPacks) && x.In != x.Pack &&
		isMark(x.Mark) && isName(x.Goods) &&
		spanWithin(x.Weight, 1, api.MaxWeight) &&
		within(x.Pieces, 1, api.MaxPieces) &&
		within(x.Owner, 1, api.MaxParty)
}

func totalFormed(x api.Paper) bool {
	return within(x.Loss, 1, api.MaxLosses) &&
		within(x.Pack, 0, api.MaxPacks) &&
		within(x.Count, 0, api.MaxCount) &&
		spanWithin(x.Weight, 0, api.MaxTotal)
}

func within(n, low, high int) bool { return low <= n && n <= high }

func spanWithin(s api.Span, low, high int) bool {
	return low <= s.Low && s.Low <= s.High && s.High <= high
}

// Check returns 0 and OK for a file, and otherwise the index of the first paper that is refused, and its error.
func Check(l []api.Paper) (int, api.Errno) {
	g := ledger{kinds: map[int]uint8{}, void: map[int]bool{}}
	for i, x := range l {
		if e := g.refusal(x); e != api.OK {
			return i, e
		}
		g.enter(x)
	}
	return 0, api.OK
}

// ledger is what is remembered of the papers before one.
type ledger struct {
	count int
	kinds map[int]uint8 // by Ids
	void  map[int]bool  // the Ids that a PaperVoid names
	known int           // of the last one
}

// refusal returns the error of a paper behind those of the ledger.
func (g *ledger) refusal(x api.Paper) api.Errno {
	switch {
	case g.count == api.MaxPapers:
		return api.ErrLimit
	case CheckPaper(x) != api.OK:
		return api.ErrArg
	case g.kinds[x.Id] != 0:
		return api.ErrTwice
	case x.Known < g.known:
		return api.ErrTime
	case x.Kind != api.PaperVoid:
		return api.OK
	case g.kinds[x.Of] == 0 || g.kinds[x.Of] == api.PaperVoid:
		return api.ErrNone
	case g.void[x.Of]:
		return api.ErrTwice
	}
	return api.OK
}

func (g *ledger) enter(x api.Paper) {
	g.count++
	g.kinds[x.Id] = x.Kind
	g.known = x.Known
	if x.Kind == api.PaperVoid {
		g.void[x.Of] = true
	}
}

// Append returns a file with a paper at its end.
func Append(l []api.Paper, x api.Paper) ([]api.Paper, api.Errno) {
	longer := make([]api.Paper, 0, len(l)+1)
	longer = append(longer, l...)
	longer = append(longer, x)
	if _, e := Check(longer); e != api.OK {
		return nil, e
	}
	return longer, api.OK
}

// Counting returns the papers of a file that count, in order.
func Counting(l []api.Paper, known int) []api.Paper {
	if _, e := Check(l); e != api.OK {
		return nil
	}
	var out []api.Paper
	for x := range counting(l, known) {
		out = append(out, x)
	}
	return out
}

// counting yields the papers of a file that count, in order.
func counting(l []api.Paper, known int) iter.Seq[api.Paper] {
	return func(yield func(api.Paper) bool) {
		void := map[int]bool{}
		for _, x := range l {
			if x.Kind == api.PaperVoid && x.Known <= known {
				void[x.Of] = true
			}
		}
		for _, x := range l {
			counts := x.Kind != api.PaperVoid && x.Known <= known && !void[x.Id]
			if counts && !yield(x) {
				return
			}
		}
	}
}
