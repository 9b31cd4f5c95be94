package find

import "lagan/api"

// flow is weights of all parcels of a scene, which are changed step by step.
type flow struct {
	moves  []int // the moves, ascending: node i+1 is that of moves[i], and node 0 the outside
	pipes  []pipe
	steps  [][]step // from each node
	weight []int    // of each pipe
}

// pipe is an arc between two nodes of a flow, and what can flow through it.
type pipe struct {
	from, to int
	can      api.Span
}

// step leads from a node to another one, along a pipe through which then more flows (up), or against one through
// which less flows.
type step struct {
	pipe, from, to int
	up             bool
}

// none is the index of no pipe.
const none = -1

// newFlow returns the flow of a scene in which each parcel weighs the least that is said of it.
func newFlow(s scene) *flow {
	f := &flow{moves: s.moves, steps: make([][]step, len(s.moves)+1)}
	node := map[int]int{outside: 0}
	for i, id := range s.moves {
		node[id] = i + 1
	}
	for a := range s.arcs() {
		i, p := len(f.pipes), pipe{node[a.from], node[a.to], a.Weight}
		f.pipes = append(f.pipes, p)
		f.weight = append(f.weight, p.can.Low)
		f.steps[p.from] = append(f.steps[p.from], step{i, p.from, p.to, true})
		f.steps[p.to] = append(f.steps[p.to], step{i, p.to, p.from, false})
	}
	return f
}

// room returns by how much a step can change the weight.
func (f *flow) room(s step) int {
	if s.up {
		return f.pipes[s.pipe].can.High - f.weight[s.pipe]
	}
	return f.weight[s.pipe] - f.pipes[s.pipe].can.Low
}

// roomAlong returns by how much all steps can change the weights, but at most a number.
func (f *flow) roomAlong(steps []step, most int) int {
	for _, s := range steps {
		most = min(most, f.room(s))
	}
	return most
}

func (f *flow) push(steps []step, n int) {
	for _, s := range steps {
		if s.up {
			f.weight[s.pipe] += n
		} else {
			f.weight[s.pipe] -= n
		}
	}
}

// walk is what a search came to: a goal, and the steps to it; or no goal, and all nodes that it can come to.
type walk struct {
	is      bool
	goal    int
	steps   []step
	reached []bool
}

// search goes from a node by steps that have room, but not along one pipe, to the nearest node that is a goal.
func (f *flow) search(from int, isGoal func(node int) bool, without int) walk {
	w := walk{reached: make([]bool, len(f.steps))}
	came := make([]step, len(f.steps))
	w.reached[from] = true
	for queue := []int{from}; len(queue) > 0; queue = queue[1:] {
		node := queue[0]
		if isGoal(node) {
			w.is, w.goal = true, node
			for ; node != from; node = came[node].from {
				w.steps = append(w.steps, came[node])
			}
			return w
		}
		for _, s := range f.steps[node] {
			if s.pipe != without && !w.reached[s.to] && f.room(s) > 0 {
				w.reached[s.to] = true
				came[s.to] = s
				queue = append(queue, s.to)
			}
		}
	}
	return w
}

// balance balances the weights, and reports whether this can be; if not, it returns a side that more enters than
// can leave, or the other way round.
func (f *flow) balance() ([]int, bool) {
	over := f.surplus()
	short := func(node int) bool { return over[node] < 0 }
	for node := range over {
		for over[node] > 0 {
			w := f.search(node, short, none)
			if !w.is {
				return f.sideOf(w.reached), false
			}
			n := f.roomAlong(w.steps, min(over[node], -over[w.goal]))
			f.push(w.steps, n)
			over[node] -= n
			over[w.goal] += n
		}
	}
	return nil, true
}

// surplus returns how much more weight comes into each node than goes out of it.
func (f *flow) surplus() []int {
	over := make([]int, len(f.steps))
	for i, p := range f.pipes {
		over[p.to] += f.weight[i]
		over[p.from] -= f.weight[i]
	}
	return over
}

// sideOf returns the side of some nodes: if the outside is among them, that of all others.
func (f *flow) sideOf(nodes []bool) []int {
	var side []int
	for i, id := range f.moves {
		if nodes[i+1] != nodes[0] {
			side = append(side, id)
		}
	}
	return side
}

// raise makes a parcel of balanced weights as heavy as it can be, and returns a side that shows this end.
func (f *flow) raise(parcel int) []int {
	p := f.pipes[parcel]
	for f.weight[parcel] < p.can.High {
		w := f.search(p.to, func(node int) bool { return node == p.from }, parcel)
		if !w.is {
			return f.sideOf(w.reached)
		}
		n := f.roomAlong(w.steps, p.can.High-f.weight[parcel])
		f.push(w.steps, n)
		f.weight[parcel] += n
	}
	return nil
}

// lower makes a parcel of balanced weights as light as it can be, and returns a side that shows this end.
func (f *flow) lower(parcel int) []int {
	p := f.pipes[parcel]
	for f.weight[parcel] > p.can.Low {
		w := f.search(p.from, func(node int) bool { return node == p.to }, parcel)
		if !w.is {
			return f.sideOf(w.reached)
		}
		n := f.roomAlong(w.steps, f.weight[parcel]-p.can.Low)
		f.push(w.steps, n)
		f.weight[parcel] -= n
	}
	return nil
}

// end returns an end of a parcel, and a side that shows it; the weights are then some in which it has this end.
func (f *flow) end(parcel int, upper bool) (int, []int) {
	widen := f.lower
	if upper {
		widen = f.raise
	}
	side := widen(parcel)
	return f.weight[parcel], side
}
