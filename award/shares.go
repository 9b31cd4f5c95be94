package award

import (
	"maps"
	"slices"

	"lagan/api"
	"lagan/claim"
)

// account is the pence of parties, by parties: of those alone who have other than 0.
type account map[int]int

func (a account) add(party, pence int) {
	a[party] += pence
	if a[party] == 0 {
		delete(a, party)
	}
}

// shares returns the pence of an account, by ascending parties.
func (a account) shares() []api.Share {
	var out []api.Share
	for _, party := range slices.Sorted(maps.Keys(a)) {
		out = append(out, api.Share{Party: party, Pence: a[party]})
	}
	return out
}

// Of returns the pence of a party in the Shares of an award.
func Of(a api.Award, party int) int {
	sum := 0
	for _, x := range a.Shares {
		if x.Party == party {
			sum += x.Pence
		}
	}
	return sum
}

// Merge returns the sums of the pence of parties that are not 0, by ascending parties.
func Merge(l []api.Share) ([]api.Share, api.Errno) { return Change(nil, l) }

// Change returns by how much the sums of parties are greater in b than in a, by ascending parties.
func Change(a, b []api.Share) ([]api.Share, api.Errno) {
	for _, l := range [2][]api.Share{a, b} {
		if e := checkShares(l); e != api.OK {
			return nil, e
		}
	}
	change := account{}
	for _, x := range a {
		change.add(x.Party, -x.Pence)
	}
	for _, x := range b {
		change.add(x.Party, x.Pence)
	}
	return change.shares(), api.OK
}

// checkShares returns the error of a list of which sums can be taken.
func checkShares(l []api.Share) api.Errno {
	if len(l) > api.MaxTerms {
		return api.ErrLimit
	}
	for _, x := range l {
		if !isPartyOrCrown(x.Party) || !within(x.Pence, -api.MaxMoney, api.MaxMoney) {
			return api.ErrArg
		}
	}
	return api.OK
}

// Equal returns equal parts of pence, in the order of the parties.
func Equal(pence int, parties []int) ([]int, api.Errno) {
	if !within(pence, 0, api.MaxMoney) || !areFinders(parties) {
		return nil, api.ErrArg
	}
	return equalParts(pence, len(parties)), api.OK
}

// areFinders reports whether a list is one of the parties of finds, of which one may be there more than once.
func areFinders(parties []int) bool {
	return within(len(parties), 1, api.MaxParty) && !slices.ContainsFunc(parties, isNoParty)
}

func isNoParty(n int) bool { return !isParty(n) }

func equalParts(pence, count int) []int {
	parts := make([]int, count)
	for i := range parts {
		parts[i] = pence / count
		if i < pence%count {
			parts[i]++
		}
	}
	return parts
}

// Divide returns pence that are divided by titles, in the order of the titles, and what is left.
func Divide(pence int, titles []api.Title) ([]api.Share, int, api.Errno) {
	var parties []int
	var parts []api.Frac
	for _, x := range titles {
		if !isPartyOrCrown(x.Party) {
			return nil, 0, api.ErrArg
		}
		parties = append(parties, x.Party)
		parts = append(parts, x.Share)
	}
	if isTwice(parties) {
		return nil, 0, api.ErrArg
	}
	split, e := claim.Split(pence, parts)
	if e != api.OK {
		return nil, 0, e
	}
	var shares []api.Share
	for i, part := range split {
		shares = append(shares, api.Share{Party: parties[i], Pence: part})
		pence -= part
	}
	return shares, pence, api.OK
}
