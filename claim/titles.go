package claim

import (
	"cmp"
	"iter"
	"maps"
	"slices"

	"lagan/api"
)

// noDeadline is the deadline where there is none.
const noDeadline = -1

// afterAll is an hour behind those of all deeds.
const afterAll = api.MaxHour + 1

// view is how a title is looked at: the title of a package with an owner, as known at an hour, at an hour, with a
// deadline.
type view struct {
	loss, pack, owner     int
	known, hour, deadline int
}

// check returns the error of Check of a register, and ErrArg for what is out of range, parties besides.
func (v view) check(l []api.Deed, parties ...int) api.Errno {
	if e := checkRegister(l); e != api.OK {
		return e
	}
	if !isPackage(v.loss, v.pack) || !isParty(v.owner) || v.deadline < noDeadline {
		return api.ErrArg
	}
	for _, party := range parties {
		if !isPartyOrCrown(party) {
			return api.ErrArg
		}
	}
	return api.OK
}

// deeds returns the deeds of a register that count, and are of the package or withdraw a claim, as they are listed. A
// withdrawal does nothing where its claim is not among them.
func (v view) deeds(l []api.Deed) []api.Deed {
	var out []api.Deed
	for x := range counting(l, v.known) {
		if x.Kind == api.DeedWithdraw || x.Loss == v.loss && x.Pack == v.pack {
			out = append(out, x)
		}
	}
	return out
}

// outcome is what deeds lead to: shares, and the Ids of the deeds that are idle.
type outcome struct {
	shares shares
	idle   []int
}

// by returns what deeds of the package lead to; ErrLimit if what the crown has at the deadline is not in range.
func (v view) by(deeds []api.Deed) (o outcome, e api.Errno) {
	e = attempt(func() { o = v.settled(deeds) })
	return o, e
}

// settled returns what deeds of the package lead to. It panics if what the crown has at the deadline is not in range.
func (v view) settled(deeds []api.Deed) outcome {
	deeds = byHour(deeds)
	o := outcome{shares: noShares()}
	o.shares[v.owner] = whole
	if v.deadline == noDeadline || v.deadline >= v.hour {
		o.do(moves(deeds, 0, v.hour))
		return o
	}
	o.do(moves(deeds, 0, v.deadline))
	o.shares.forfeit(claimants(deeds, v.deadline))
	o.do(moves(deeds, v.deadline+1, v.hour))
	return o
}

func (o *outcome) do(deeds iter.Seq[api.Deed]) {
	effects := effectsOfKinds()
	for x := range deeds {
		if !o.shares.do(x, effects[x.Kind]) {
			o.idle = append(o.idle, x.Id)
		}
	}
}

// moves yields the deeds that move shares, from one hour to another one.
func moves(deeds []api.Deed, from, until int) iter.Seq[api.Deed] {
	return func(yield func(api.Deed) bool) {
		for _, x := range deeds {
			if isMove(x) && within(x.Hour, from, until) && !yield(x) {
				return
			}
		}
	}
}

// claimants returns the parties who claim by an hour, by deeds of a package.
func claimants(deeds []api.Deed, hour int) map[int]bool {
	withdrawn := map[int]bool{}
	for _, x := range deeds {
		if x.Kind == api.DeedWithdraw && x.Hour <= hour {
			withdrawn[x.Of] = true
		}
	}
	out := map[int]bool{}
	for _, x := range deeds {
		if x.Kind == api.DeedClaim && x.Hour <= hour && !withdrawn[x.Id] {
			out[x.From] = true
		}
	}
	return out
}

// Titles returns the shares of a package that are not 0, the crown's first.
func Titles(l []api.Deed, loss, pack, owner, known, hour, deadline int) ([]api.Title, api.Errno) {
	v := view{loss, pack, owner, known, hour, deadline}
	if e := v.check(l); e != api.OK {
		return nil, e
	}
	return v.titles(v.deeds(l))
}

// titles returns the shares by deeds of the package that are not 0.
func (v view) titles(deeds []api.Deed) ([]api.Title, api.Errno) {
	o, e := v.by(deeds)
	if e != api.OK {
		return nil, e
	}
	return o.shares.titles(), api.OK
}

// ShareOf returns the share that a party, or the crown, has of a package.
func ShareOf(l []api.Deed, loss, pack, owner, known, hour, deadline, party int) (api.Frac, api.Errno) {
	v := view{loss, pack, owner, known, hour, deadline}
	if e := v.check(l, party); e != api.OK {
		return api.Frac{}, e
	}
	o, e := v.by(v.deeds(l))
	if e != api.OK {
		return api.Frac{}, e
	}
	return api.Frac(o.shares[party]), api.OK
}

// Claimed returns the parties who claim a package by an hour, ascending.
func Claimed(l []api.Deed, loss, pack, known, hour int) []int {
	if checkRegister(l) != api.OK {
		return nil
	}
	v := view{loss: loss, pack: pack, known: known}
	return ascending(slices.Collect(maps.Keys(claimants(v.deeds(l), hour))))
}

func ascending(l []int) []int { return sorted(l, cmp.Compare[int]) }

// Idle returns the Ids of the deeds that count, should move shares of a package, and are idle, ascending.
func Idle(l []api.Deed, loss, pack, owner, known, deadline int) ([]int, api.Errno) {
	v := view{loss, pack, owner, known, afterAll, deadline}
	if e := v.check(l); e != api.OK {
		return nil, e
	}
	o, e := v.by(v.deeds(l))
	if e != api.OK {
		return nil, e
	}
	return ascending(o.idle), api.OK
}

// Possible returns the error of a deed behind a register: ErrIdle if it should move shares, and is idle.
func Possible(l []api.Deed, x api.Deed, owner, deadline int) api.Errno {
	longer, e := Append(l, x)
	if e != api.OK {
		return e
	}
	at := subject(longer, x)
	idle, e := Idle(longer, at.Loss, at.Pack, owner, x.Known, deadline)
	switch {
	case e == api.ErrLimit && !isMove(x):
		return api.OK
	case e != api.OK:
		return e
	case slices.Contains(idle, x.Id):
		return api.ErrIdle
	}
	return api.OK
}
