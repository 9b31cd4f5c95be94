package inquiry

import (
	"slices"

	"lagan/api"
	"lagan/cargo"
	"lagan/find"
)

func (m matter) refuseWeight() api.Errno {
	_, e := m.parcelOf(m.args[0])
	return e
}

func (m matter) answerWeight() api.Answer {
	parcel := m.args[0]
	low, lightest, lowSide, e := find.Bound(m.Reports, m.known, parcel, false)
	if e != api.OK {
		// There is no other error than that the reports contradict each other.
		c, _, _ := find.Conflict(m.Reports, m.known)
		return api.Answer{Values: []int{no}, Proof: [][]int{{c.Parcel}, c.Side}}
	}
	high, heaviest, highSide, _ := find.Bound(m.Reports, m.known, parcel, true)
	return api.Answer{Values: []int{yes, low, high}, Proof: [][]int{lightest, lowSide, heaviest, highSide}}
}

func (m matter) checkWeight(x *exhibit) {
	if !x.says() {
		c := api.Conflict{Parcel: x.only()}
		c.Side = x.list()
		is, _ := find.CheckConflict(m.Reports, m.known, c)
		require(is)
		return
	}
	for _, upper := range [2]bool{false, true} {
		end := x.value()
		weights := x.list()
		is, _ := find.CheckWeights(m.Reports, m.known, weights)
		require(is)
		i, _ := m.indexOf(m.args[0])
		require(weights[i] == end)
		is, _ = find.CheckSide(m.Reports, m.known, m.args[0], upper, end, x.list())
		require(is)
	}
}

func (m matter) refusePackage() api.Errno {
	_, e := cargo.Path(m.Papers, m.known, m.args[0], m.args[1])
	return e
}

func (m matter) answerPackage() api.Answer {
	loss, pack := m.args[0], m.args[1]
	ends, e := cargo.Weigh(m.Papers, m.known, loss, pack)
	if e != api.OK {
		// There is no other error than that the papers contradict each other.
		ids, _, _ := cargo.Doubt(m.Papers, m.known, loss)
		return api.Answer{Values: []int{no}, Proof: [][]int{ids}}
	}
	a := api.Answer{Values: []int{yes, ends.Low, ends.High}}
	for _, upper := range [2]bool{false, true} {
		end := ends.Low
		if upper {
			end = ends.High
		}
		c, _, _ := cargo.Completion(m.Papers, m.known, loss, pack, end)
		var weights []int
		for _, w := range c {
			weights = append(weights, w.Weight)
		}
		ids, _ := cargo.Lineage(m.Papers, m.known, loss, pack, upper)
		a.Proof = append(a.Proof, weights, ids)
	}
	return a
}

func (m matter) checkPackage(x *exhibit) {
	loss, pack := m.args[0], m.args[1]
	if !x.says() {
		is, _ := cargo.CheckDoubt(m.Papers, m.known, loss, x.list())
		require(is)
		return
	}
	for _, upper := range [2]bool{false, true} {
		end := x.value()
		c := m.weighed(loss, x.list())
		is, _ := cargo.CheckCompletion(m.Papers, m.known, loss, c)
		require(is && slices.Contains(c, api.Weighed{Pack: pack, Weight: end}))
		is, _ = cargo.CheckLineage(m.Papers, m.known, loss, pack, upper, end, x.list())
		require(is)
	}
}

// weighed returns the packages of a loss with weights, one for each. It gives up if these are not as many.
func (m matter) weighed(loss int, weights []int) []api.Weighed {
	packages := cargo.Packages(m.Papers, m.known, loss)
	require(len(weights) == len(packages))
	var out []api.Weighed
	for i, p := range packages {
		out = append(out, api.Weighed{Pack: p.Pack, Weight: weights[i]})
	}
	return out
}
