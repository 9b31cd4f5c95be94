package claim

import (
	"cmp"
	"iter"
	"slices"

	"lagan/api"
)

// CheckDeed returns ErrArg for a deed that is not well-formed.
func CheckDeed(x api.Deed) api.Errno {
	formed := within(x.Id, 1, api.MaxId) && within(x.Known, 0, api.MaxHour) && within(x.Hour, 0, api.MaxHour)
	if !formed || x != used(x) || !isFormed(x) {
		return api.ErrArg
	}
	return api.OK
}

// fields returns the fields of a deed that its Kind uses beside Id, Known and Hour, in the order of its line.
func fields(x *api.Deed) []*int {
	switch x.Kind {
	case api.DeedPaid, api.DeedSold:
		return []*int{&x.Loss, &x.Pack, &x.From, &x.To, &x.Share.Num, &x.Share.Den}
	case api.DeedLeft:
		return []*int{&x.Loss, &x.Pack, &x.From, &x.To}
	case api.DeedClaim:
		return []*int{&x.Loss, &x.Pack, &x.From}
	case api.DeedWithdraw, api.DeedVoid:
		return []*int{&x.Of}
	}
	return nil
}

// used returns a deed with the fields alone that its Kind uses.
func used(x api.Deed) api.Deed {
	y := api.Deed{Id: x.Id, Known: x.Known, Kind: x.Kind}
	if x.Kind != api.DeedVoid {
		y.Hour = x.Hour
	}
	from := fields(&x)
	for i, field := range fields(&y) {
		*field = *from[i]
	}
	return y
}

// isFormed reports whether the fields are as said that the Kind of a deed uses beside Id, Known and Hour.
func isFormed(x api.Deed) bool {
	switch x.Kind {
	case api.DeedPaid, api.DeedSold:
		return isPackage(x.Loss, x.Pack) && isParty(x.From) && isParty(x.To) && x.To != x.From && isPart(x.Share)
	case api.DeedLeft:
		return isPackage(x.Loss, x.Pack) && isParty(x.From) && isPartyOrCrown(x.To) && x.To != x.From
	case api.DeedClaim:
		return isPackage(x.Loss, x.Pack) && isParty(x.From)
	case api.DeedWithdraw, api.DeedVoid:
		return within(x.Of, 1, api.MaxId)
	}
	return false
}

func isPackage(loss, pack int) bool {
	return within(loss, 1, api.MaxLosses) && within(pack, 1, api.MaxPacks)
}

// isMove reports whether a deed is of a kind that moves shares.
func isMove(x api.Deed) bool {
	return x.Kind == api.DeedPaid || x.Kind == api.DeedSold || x.Kind == api.DeedLeft
}

// Check returns 0 and OK for a register, and otherwise the index of the first deed that is refused, and its error.
func Check(l []api.Deed) (int, api.Errno) {
	g := ledger{kinds: map[int]uint8{}, void: map[int]bool{}}
	for i, x := range l {
		if e := g.refusal(x); e != api.OK {
			return i, e
		}
		g.enter(x)
	}
	return 0, api.OK
}

func checkRegister(l []api.Deed) api.Errno {
	_, e := Check(l)
	return e
}

// ledger is what is remembered of the deeds before one.
type ledger struct {
	kinds map[int]uint8 // by Ids; 0, which is no kind, of an Id that is not there
	void  map[int]bool  // the Ids that a DeedVoid names
	known int           // of the last one
}

// refusal returns the error of a deed behind those of the ledger.
func (g *ledger) refusal(x api.Deed) api.Errno {
	switch {
	case len(g.kinds) == api.MaxDeeds:
		return api.ErrLimit
	case CheckDeed(x) != api.OK:
		return api.ErrArg
	case g.kinds[x.Id] != 0:
		return api.ErrTwice
	case x.Known < g.known:
		return api.ErrTime
	case !isNamed(x.Kind, g.kinds[x.Of]):
		return api.ErrNone
	case x.Kind == api.DeedVoid && g.void[x.Of]:
		return api.ErrTwice
	}
	return api.OK
}

// isNamed reports whether a deed of a kind can name one of another kind; 0 is the kind of one that is not there.
func isNamed(kind, named uint8) bool {
	switch kind {
	case api.DeedWithdraw:
		return named == api.DeedClaim
	case api.DeedVoid:
		return named != 0 && named != api.DeedVoid
	}
	return true
}

func (g *ledger) enter(x api.Deed) {
	g.kinds[x.Id] = x.Kind
	g.known = x.Known
	if x.Kind == api.DeedVoid {
		g.void[x.Of] = true
	}
}

// Append returns a register with a deed at its end.
func Append(l []api.Deed, x api.Deed) ([]api.Deed, api.Errno) {
	longer := make([]api.Deed, 0, len(l)+1)
	longer = append(longer, l...)
	longer = append(longer, x)
	if e := checkRegister(longer); e != api.OK {
		return nil, e
	}
	return longer, api.OK
}

// Counting returns the deeds of a register that count, in the order of their Hours.
func Counting(l []api.Deed, known int) []api.Deed {
	if checkRegister(l) != api.OK {
		return nil
	}
	return byHour(slices.Collect(counting(l, known)))
}

// counting yields the deeds of a register that count, as they are listed.
func counting(l []api.Deed, known int) iter.Seq[api.Deed] {
	return func(yield func(api.Deed) bool) {
		void := map[int]bool{}
		for _, x := range l {
			if x.Kind == api.DeedVoid && x.Known <= known {
				void[x.Of] = true
			}
		}
		for _, x := range l {
			counts := x.Kind != api.DeedVoid && x.Known <= known && !void[x.Id]
			if counts && !yield(x) {
				return
			}
		}
	}
}

// byHour returns deeds in the order of their Hours.
func byHour(l []api.Deed) []api.Deed {
	return sorted(l, func(a, b api.Deed) int { return cmp.Compare(a.Hour, b.Hour) })
}
