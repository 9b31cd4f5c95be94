package claim

import "lagan/api"

// shares is what the crown and each party have of something.
type shares [api.MaxParty + 1]fraction

// noShares returns the shares of something of which nobody has any.
func noShares() shares {
	var s shares
	for party := range s {
		s[party] = nothing
	}
	return s
}

// sharesOf returns the shares that titles say.
func sharesOf(titles []api.Title) shares {
	s := noShares()
	for _, x := range titles {
		s[x.Party] = fraction(x.Share)
	}
	return s
}

// titles returns the shares that are not 0.
func (s shares) titles() []api.Title {
	var out []api.Title
	for party, share := range s {
		if share != nothing {
			out = append(out, api.Title{Party: party, Share: api.Frac(share)})
		}
	}
	return out
}

// pass passes a part of what somebody has on. It panics if something is not in range then.
func (s *shares) pass(from, to int, part fraction) {
	over := s[from].times(part)
	s[from] = s[from].minus(over)
	s[to] = s[to].plus(over)
}

func (s *shares) passShare(x api.Deed) { s.pass(x.From, x.To, fraction(x.Share)) }

func (s *shares) passAll(x api.Deed) { s.pass(x.From, x.To, whole) }

// effectsOfKinds returns, by the kinds of deeds that move shares, what they do.
func effectsOfKinds() map[uint8]func(*shares, api.Deed) {
	return map[uint8]func(*shares, api.Deed){
		api.DeedPaid: (*shares).passShare,
		api.DeedSold: (*shares).passShare,
		api.DeedLeft: (*shares).passAll,
	}
}

// do does a deed with an effect, and reports whether it is not idle.
func (s *shares) do(x api.Deed, effect func(*shares, api.Deed)) bool {
	next := *s
	if next[x.From] == nothing || attempt(func() { effect(&next, x) }) != api.OK {
		return false
	}
	*s = next
	return true
}

// forfeit gives the crown all that parties have who do not claim. It panics if what it has is not in range then.
func (s *shares) forfeit(claims map[int]bool) {
	for party := range s {
		if isParty(party) && !claims[party] {
			s.pass(party, api.Crown, whole)
		}
	}
}
