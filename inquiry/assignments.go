package inquiry

import (
	"lagan/api"
	"lagan/match"
)

func (m matter) refuseAssign() api.Errno { return m.build() }

func (m matter) answerAssign() api.Answer {
	if !m.hasAssignment() {
		return api.Answer{Values: []int{no}, Proof: [][]int{m.hall()}}
	}
	return api.Answer{Values: []int{yes}, Proof: [][]int{m.assignment()}}
}

// hall returns a Hall set of a board without an assignment.
func (b *books) hall() []int {
	finds, _, _ := match.Hall(b.board)
	return finds
}

// assignment returns an assignment of a board that has one.
func (b *books) assignment() []int {
	l, _, _ := match.Assign(b.board)
	return l
}

// requireHall gives up a list that is no Hall set.
func (b *books) requireHall(finds []int) {
	is, _ := match.CheckHall(b.board, finds)
	require(is)
}

// requireAssignment gives up a list that is no assignment.
func (b *books) requireAssignment(l []int) {
	is, _ := match.Meets(b.board, l)
	require(is)
}

// requireThrough gives up a list that is no assignment that gives a find a slot.
func (b *books) requireThrough(l []int, find, slot int) {
	b.requireAssignment(l)
	require(l[find] == slot)
}

// requireDenial gives up a list that is no denial of a slot to a find.
func (b *books) requireDenial(finds []int, find, slot int) {
	is, _ := match.CheckRefuse(b.board, find, slot, finds)
	require(is)
}

func (m matter) checkAssign(x *exhibit) {
	if x.says() {
		m.requireAssignment(x.list())
	} else {
		m.requireHall(x.list())
	}
}

// pairOf returns the find and the slot that a question asks for, or the error with which it is refused.
func (m matter) pairOf() (find, slot int, e api.Errno) {
	slot, e = m.slotOf(m.args[1], m.args[2])
	if e != api.OK {
		return 0, 0, e
	}
	find, e = m.findOf(m.args[0])
	return find, slot, e
}

func (m matter) refuseMay() api.Errno {
	_, _, e := m.pairOf()
	return e
}

func (m matter) answerMay() api.Answer {
	find, slot, _ := m.pairOf()
	if !m.hasAssignment() {
		return api.Answer{Values: []int{moot}, Proof: [][]int{m.hall()}}
	}
	if l, is, _ := match.Through(m.board, find, slot); is {
		return api.Answer{Values: []int{yes}, Proof: [][]int{l}}
	}
	finds, _, _ := match.Refuse(m.board, find, slot)
	return api.Answer{Values: []int{no}, Proof: [][]int{finds, m.assignment()}}
}

func (m matter) checkMay(x *exhibit) {
	find, slot, _ := m.pairOf()
	switch x.value() {
	case yes:
		m.requireThrough(x.list(), find, slot)
	case no:
		m.requireDenial(x.list(), find, slot)
		m.requireAssignment(x.list())
	case moot:
		m.requireHall(x.list())
	default:
		require(false)
	}
}
