package inquiry

// What the first one of the Values of an answer says.
const (
	no   = 0
	yes  = 1
	moot = 2 // there is no assignment, so that it is not asked what one has
)

// exhibit is an answer that is checked: what of it was not looked at yet. What is not shown is given up.
type exhibit struct {
	values []int
	lists  [][]int
}

// isDone reports whether all of an answer was looked at.
func (x *exhibit) isDone() bool { return len(x.values) == 0 && len(x.lists) == 0 }

// value returns the next one of the Values.
func (x *exhibit) value() int {
	n, rest := first(x.values)
	x.values = rest
	return n
}

// says returns whether the next one of the Values is 1; otherwise it has to be 0.
func (x *exhibit) says() bool {
	n := x.value()
	require(n == yes || n == no)
	return n == yes
}

// concludes requires that what is left of the Values is some numbers.
func (x *exhibit) concludes(values []int) {
	require(same(x.values, values))
	x.values = nil
}

// list returns the next list of the Proof.
func (x *exhibit) list() []int {
	l, rest := first(x.lists)
	x.lists = rest
	return l
}

// only returns the number that is alone in the next list of the Proof.
func (x *exhibit) only() int {
	n, rest := first(x.list())
	require(len(rest) == 0)
	return n
}

// first returns the first element of a list, and the others. It gives up a list that is short of it.
func first[T any](l []T) (T, []T) {
	require(len(l) > 0)
	return l[0], l[1:]
}
