package claim

import "lagan/api"

// Common returns the least share in all lists of each party that has one in each.
func Common(l [][]api.Title) ([]api.Title, api.Errno) { return chosen(l, fraction.least) }

// Greatest returns the greatest share in all lists of each party that has one in some.
func Greatest(l [][]api.Title) ([]api.Title, api.Errno) { return chosen(l, fraction.greatest) }

// chosen returns for each party what is chosen of its shares in all lists; 0 is its share in a list without it.
func chosen(l [][]api.Title, choose func(a, b fraction) fraction) ([]api.Title, api.Errno) {
	if len(l) > api.MaxTerms {
		return nil, api.ErrLimit
	}
	for _, titles := range l {
		if !areTitles(titles) {
			return nil, api.ErrArg
		}
	}
	if len(l) == 0 {
		return nil, api.OK
	}
	out := sharesOf(l[0])
	for _, titles := range l[1:] {
		for party, share := range sharesOf(titles) {
			out[party] = choose(out[party], share)
		}
	}
	return out.titles(), api.OK
}

// areTitles reports whether the parties of a list are ascending, and its shares are parts.
func areTitles(titles []api.Title) bool {
	for i, x := range titles {
		if !isPartyOrCrown(x.Party) || !isPart(x.Share) || i > 0 && titles[i-1].Party >= x.Party {
			return false
		}
	}
	return true
}

// Split divides pence by shares.
func Split(total int, parts []api.Frac) ([]int, api.Errno) {
	sum, e := sumOfParts(total, parts)
	if e != api.OK {
		return nil, e
	}
	pence := make([]int, len(parts))
	places := make([]int, len(parts))
	cut := make([]fraction, len(parts)) // not in lowest terms
	left := total * sum.Num / sum.Den
	for i, part := range parts {
		pence[i] = total * part.Num / part.Den
		cut[i] = fraction{Num: total * part.Num % part.Den, Den: part.Den}
		places[i] = i
		left -= pence[i]
	}
	places = sorted(places, func(i, j int) int { return cut[j].compare(cut[i]) })
	for _, i := range places[:left] {
		pence[i]++
	}
	return pence, api.OK
}

// sumOfParts returns the sum of the parts by which pence are divided, or the error of Split.
func sumOfParts(total int, parts []api.Frac) (api.Frac, api.Errno) {
	if len(parts) > api.MaxParty+1 {
		return api.Frac{}, api.ErrLimit
	}
	if !within(total, 0, api.MaxMoney) {
		return api.Frac{}, api.ErrArg
	}
	for _, part := range parts {
		if !isPart(part) && part != api.Frac(nothing) {
			return api.Frac{}, api.ErrArg
		}
	}
	sum, e := Sum(parts)
	if e != api.OK {
		return api.Frac{}, e
	}
	if fraction(sum).compare(whole) > 0 {
		return api.Frac{}, api.ErrParts
	}
	return sum, api.OK
}
