package claim_test

import (
	"math"
	"slices"
	"testing"

	"lagan/api"
	"lagan/claim"
)

// call is a function of E5 to E7 that returns an error.
type call struct {
	name  string
	party bool // it is asked of a party
	do    func(a asked) (empty bool, e api.Errno)
}

func calls() []call {
	return []call{
		{"Titles", false, func(a asked) (bool, api.Errno) {
			x, e := claim.Titles(a.l, a.loss, a.pack, a.owner, a.known, a.hour, a.deadline)
			return len(x) == 0, e
		}},
		{"ShareOf", true, func(a asked) (bool, api.Errno) {
			x, e := claim.ShareOf(a.l, a.loss, a.pack, a.owner, a.known, a.hour, a.deadline, a.party)
			return x == api.Frac{}, e
		}},
		{"Idle", false, func(a asked) (bool, api.Errno) {
			x, e := claim.Idle(a.l, a.loss, a.pack, a.owner, a.known, a.deadline)
			return len(x) == 0, e
		}},
		{"Lineage", true, func(a asked) (bool, api.Errno) {
			x, e := claim.Lineage(a.l, a.loss, a.pack, a.owner, a.known, a.hour, a.deadline, a.party)
			return len(x) == 0, e
		}},
		{"Only", false, func(a asked) (bool, api.Errno) {
			x, e := claim.Only(a.l, a.loss, a.pack, a.owner, a.known, a.hour, a.deadline, []int{1, 2, 3})
			return len(x) == 0, e
		}},
	}
}

func (c call) check(t testing.TB, what string, a asked, want api.Errno) {
	t.Helper()
	if empty, e := c.do(a); e != want || e != api.OK && !empty {
		t.Errorf("%s: %s: error %d, want %d; nothing beside it: %v", c.name, what, e, want, empty)
	}
}

// P5.1: the error of Check, then ErrArg, then ErrLimit.
func TestErrors(t *testing.T) {
	good := asked{l: sample(t), loss: 1, pack: 3, owner: 7, known: 12, hour: 21, deadline: 20, party: 7}
	limit := good
	limit.l, limit.deadline = outOfRange(t), 9
	for _, c := range calls() {
		c.check(t, "what is right", good, api.OK)
		c.check(t, "what is not in range", limit, api.ErrLimit)
		for _, spoil := range []struct {
			what string
			do   func(a *asked)
		}{
			{"loss 0", func(a *asked) { a.loss = 0 }}, {"loss 21", func(a *asked) { a.loss = 21 }}, {"the least loss", func(a *asked) { a.loss = math.MinInt }},
			{"pack 0", func(a *asked) { a.pack = 0 }}, {"pack 201", func(a *asked) { a.pack = 201 }}, {"the greatest pack", func(a *asked) { a.pack = math.MaxInt }},
			{"owner 0", func(a *asked) { a.owner = 0 }}, {"owner 41", func(a *asked) { a.owner = 41 }}, {"owner -1", func(a *asked) { a.owner = -1 }},
			{"deadline -2", func(a *asked) { a.deadline = -2 }}, {"the least deadline", func(a *asked) { a.deadline = math.MinInt }},
			{"party -1", func(a *asked) { a.party = -1 }}, {"party 41", func(a *asked) { a.party = 41 }}, {"the least party", func(a *asked) { a.party = math.MinInt }},
		} {
			want := api.ErrArg
			a, b := good, limit
			spoil.do(&a)
			spoil.do(&b)
			if !c.party && a.party != good.party {
				continue
			}
			c.check(t, spoil.what, a, want)
			c.check(t, spoil.what+", not in range", b, want)
			a.l = append(slices.Clone(a.l), a.l[0])
			c.check(t, spoil.what+", no register", a, api.ErrTwice)
		}
		for _, change := range []func(a *asked){
			func(a *asked) { a.loss, a.pack, a.owner = 20, 200, 40 }, func(a *asked) { a.loss, a.pack, a.owner = 1, 1, 1 },
			func(a *asked) { a.party, a.known = 0, math.MinInt }, func(a *asked) { a.party, a.known = 40, math.MaxInt },
			func(a *asked) { a.hour, a.deadline = math.MinInt, math.MaxInt }, func(a *asked) { a.hour = math.MaxInt },
		} {
			a := good
			change(&a)
			if _, e := c.do(a); e != api.OK {
				t.Errorf("%s of %+v: error %d", c.name, a, e)
			}
		}
	}
}

// P5.1: each error of Check comes first.
func TestErrorsOfCheck(t *testing.T) {
	for _, c := range calls() {
		for want, l := range map[api.Errno][]api.Deed{
			api.ErrArg:   {{}},
			api.ErrLimit: manyDeeds(301),
			api.ErrTwice: read(t, "1 0 5 claim 1 3 7", "1 0 5 claim 1 3 7"),
			api.ErrTime:  read(t, "1 1 5 claim 1 3 7", "2 0 5 claim 1 3 7"),
			api.ErrNone:  read(t, "1 0 5 claim 1 3 7", "2 0 void 3"),
		} {
			c.check(t, "no register", asked{l: l, loss: 6, pack: 5, owner: 1, deadline: -1}, want)
			c.check(t, "no register, and nothing right", asked{l: l, deadline: -2, party: -1}, want)
		}
	}
}

// R3: arguments are neither changed nor shared, and nil is as good as empty.
func TestMemory(t *testing.T) {
	l := sample(t)
	kept := slices.Clone(l)
	x := read(t, "8 50 61 claim 1 3 7")[0]
	m, _ := claim.Append(l[:3:7], x)
	same(t, "the register", l, kept)
	m, _ = claim.Append(l, x)
	clear(m)
	clear(claim.Counting(l, 99))
	ids := []int{3, 1, 2, 1}
	claim.Only(l, 1, 3, 7, 99, 99, 20, ids)
	claim.Lineage(l, 1, 3, 7, 99, 99, 20, 0)
	claim.Reached(l, x, 7, 99, 20)
	claim.Possible(l, x, 7, 20)
	claim.Idle(l, 1, 3, 7, 99, 20)
	same(t, "the Ids", ids, []int{3, 1, 2, 1})
	same(t, "the register", l, kept)
	parts := []api.Frac{frac(1, 3), frac(1, 2), frac(1, 6)}
	claim.Split(100, parts)
	claim.Sum(parts)
	same(t, "the parts", parts, []api.Frac{frac(1, 3), frac(1, 2), frac(1, 6)})
	list := lists(t, "7 1/3, 20 1/2", "7 1/4, 21 3/4")
	common, _ := claim.Common(list[:1])
	greatest, _ := claim.Greatest(list[:1])
	clear(common)
	clear(greatest)
	claim.Common(list)
	claim.Greatest(list)
	same(t, "the first list", list[0], titles(t, "7 1/3, 20 1/2"))
	same(t, "the second list", list[1], titles(t, "7 1/4, 21 3/4"))
	for _, none := range [][]api.Deed{nil, {}} {
		for _, c := range calls() {
			if _, e := c.do(asked{l: none, loss: 1, pack: 3, owner: 7, hour: 5, deadline: 2}); e != api.OK {
				t.Errorf("%s of nothing: error %d", c.name, e)
			}
		}
		got, e := claim.Titles(none, 1, 3, 7, 0, 3, 2)
		same(t, "Titles of nothing", got, titles(t, "0 1/1"))
		if i, g := claim.Check(none); i != 0 || g != api.OK || e != api.OK {
			t.Errorf("Check of nothing: %d, errors %d, %d", i, g, e)
		}
	}
}
