package inquiry

import (
	"lagan/api"
	"lagan/match"
)

// titlesAsked returns the titles that a question asks for, or the error with which it is refused.
func (m matter) titlesAsked() ([]api.Title, api.Errno) {
	slot, e := m.slotOf(m.args[0], m.args[1])
	if e != api.OK {
		return nil, e
	}
	return m.titles(slot, m.args[2])
}

func (m matter) refuseTitle() api.Errno {
	_, e := m.titlesAsked()
	return e
}

func (m matter) answerTitle() api.Answer {
	titles, _ := m.titlesAsked()
	return api.Answer{Values: valuesOfTitles(titles)}
}

func (m matter) checkTitle(x *exhibit) {
	titles, _ := m.titlesAsked()
	x.concludes(valuesOfTitles(titles))
}

func valuesOfTitles(l []api.Title) []int {
	var out []int
	for _, x := range l {
		out = append(out, x.Party, x.Share.Num, x.Share.Den)
	}
	return out
}

func valuesOfDues(l []api.Due) []int {
	var out []int
	for _, x := range l {
		out = append(out, x.Party, x.Amount)
	}
	return out
}

// proofOf returns a proof of what slots finds can be given: whether there is an assignment, and what shows it, and
// which of the slots that they fit some assignment gives them.
func (b *books) proofOf(finds []int) (is bool, proof [][]int) {
	if !b.hasAssignment() {
		return false, [][]int{b.hall()}
	}
	proof = append(proof, b.assignment())
	for find, slot := range b.pairs(finds) {
		said := yes
		l, is, _ := match.Through(b.board, find, slot)
		if !is {
			said = no
			l, _, _ = match.Refuse(b.board, find, slot)
		}
		proof = append(proof, append([]int{said}, l...))
	}
	return true, proof
}

// shown returns what is sure of finds at an hour by an exhibit: nothing if it shows that there is no assignment.
func (b *books) shown(x *exhibit, finds []int, hour int) []api.Title {
	if !x.says() {
		b.requireHall(x.list())
		return nil
	}
	b.requireAssignment(x.list())
	type pair struct{ find, slot int }
	given := map[pair]bool{}
	for find, slot := range b.pairs(finds) {
		said, l := first(x.list())
		switch said {
		case yes:
			b.requireThrough(l, find, slot)
			given[pair{find, slot}] = true
		case no:
			b.requireDenial(l, find, slot)
		default:
			require(false)
		}
	}
	return sureOf(b.lots(finds, hour, func(find, slot int) bool { return given[pair{find, slot}] }))
}

func (m matter) refuseSure() api.Errno {
	_, e := m.stakes(m.args[0], m.args[1])
	return e
}

func (m matter) answerSure() api.Answer {
	parcel, hour := m.args[0], m.args[1]
	finds, _ := m.stakes(parcel, hour)
	is, proof := m.proofOf(finds)
	if !is {
		return api.Answer{Values: []int{no}, Proof: proof}
	}
	return api.Answer{Values: append([]int{yes}, valuesOfTitles(sureOf(m.had(finds, hour)))...), Proof: proof}
}

func (m matter) checkSure(x *exhibit) {
	parcel, hour := m.args[0], m.args[1]
	finds, _ := m.stakes(parcel, hour)
	sure := m.shown(x, finds, hour)
	x.concludes(valuesOfTitles(sure))
}

// refuseDue returns the error of the dues, which it does not look for: the auditor asks for the error as well, and does
// not search.
func (m matter) refuseDue() api.Errno {
	if _, e := m.awardOf(m.args[0]); e != api.OK {
		return e
	}
	return m.refuseSure()
}

func (m matter) answerDue() api.Answer {
	parcel, hour := m.args[0], m.args[1]
	finds, _ := m.stakes(parcel, hour)
	dues, _ := m.dues(parcel, hour)
	is, proof := m.proofOf(finds)
	said := no
	if is {
		said = yes
	}
	return api.Answer{Values: append([]int{said}, valuesOfDues(dues)...), Proof: proof}
}

func (m matter) checkDue(x *exhibit) {
	parcel, hour := m.args[0], m.args[1]
	finds, _ := m.stakes(parcel, hour)
	a, _ := m.awardOf(parcel)
	sure := m.shown(x, finds, hour)
	x.concludes(valuesOfDues(duesBy(a, parcel, sure)))
}
