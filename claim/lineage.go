package claim

import (
	"slices"

	"lagan/api"
)

// Lineage returns the Ids of the deeds on which the share of a party, or of the crown, rests, ascending.
func Lineage(l []api.Deed, loss, pack, owner, known, hour, deadline, party int) ([]int, api.Errno) {
	v := view{loss, pack, owner, known, hour, deadline}
	if e := v.check(l, party); e != api.OK {
		return nil, e
	}
	kept := v.deeds(l)
	all, e := v.by(kept)
	if e != api.OK {
		return nil, e
	}
	var ids []int
	for i := len(kept) - 1; i >= 0; i-- {
		id := kept[i].Id
		fewer := slices.Delete(slices.Clone(kept), i, i+1)
		// A share that is not in range is another one than all others.
		if o, e := v.by(fewer); e == api.OK && o.shares[party] == all.shares[party] {
			kept = fewer
		} else {
			ids = append(ids, id)
		}
	}
	return ascending(ids), api.OK
}

// Only returns the titles by those counting deeds alone that have some Ids.
func Only(l []api.Deed, loss, pack, owner, known, hour, deadline int, ids []int) ([]api.Title, api.Errno) {
	v := view{loss, pack, owner, known, hour, deadline}
	if e := v.check(l); e != api.OK {
		return nil, e
	}
	return v.titles(slices.DeleteFunc(v.deeds(l), func(x api.Deed) bool { return !slices.Contains(ids, x.Id) }))
}

// Reached returns the parties whose share a further deed changes, and 0 if it changes the crown's, ascending.
func Reached(l []api.Deed, x api.Deed, owner, hour, deadline int) ([]int, api.Errno) {
	longer, e := Append(l, x)
	if e != api.OK {
		return nil, e
	}
	at := subject(longer, x)
	v := view{at.Loss, at.Pack, owner, x.Known, hour, deadline}
	if e := v.check(l); e != api.OK {
		return nil, e
	}
	before, e := v.by(v.deeds(l))
	if e != api.OK {
		return nil, e
	}
	after, e := v.by(v.deeds(longer))
	if e != api.OK {
		return nil, e
	}
	var out []int
	for party, share := range after.shares {
		if share != before.shares[party] {
			out = append(out, party)
		}
	}
	return out, api.OK
}

// subject returns the deed of a register that says of which package a deed is: itself, the deed that it names, or
// the claim that this one names.
func subject(l []api.Deed, x api.Deed) api.Deed {
	for x.Of != 0 {
		x = l[slices.IndexFunc(l, func(y api.Deed) bool { return y.Id == x.Of })]
	}
	return x
}
