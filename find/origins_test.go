package find_test

import (
	"math"
	"math/rand/v2"
	"slices"
	"testing"

	"lagan/api"
	"lagan/find"
)

// P3.1, C5, C6: the examples of the chapter.
func TestExampleOrigins(t *testing.T) {
	l := sample(t)
	for _, c := range []struct {
		name string
		do   func(l []api.Report, known, parcel int) ([]int, api.Errno)
		of   int
		want []int
	}{
		{"Origins", find.Origins, 40, []int{10, 20}},
		{"Origins", find.Origins, 30, []int{10}},
		{"Origins", find.Origins, 31, []int{10}},
		{"Origins", find.Origins, 20, []int{20}},
		{"Remains", find.Remains, 10, []int{30, 40}},
		{"Remains", find.Remains, 20, []int{40}},
		{"Remains", find.Remains, 31, []int{40}},
		{"Remains", find.Remains, 30, []int{30}},
	} {
		if ids, e := c.do(l, 20, c.of); !slices.Equal(ids, c.want) || e != api.OK {
			t.Errorf("%s of %d: %v, error %d, want %v", c.name, c.of, ids, e, c.want)
		}
		for _, of := range []int{0, 1, 11, 32, 50, 60, -10, math.MaxInt} {
			if ids, e := c.do(l, 20, of); len(ids) > 0 || e != api.ErrParcel {
				t.Errorf("%s of %d: %v, error %d", c.name, of, ids, e)
			}
		}
	}
	for _, c := range []struct {
		from, to int
		want     []int
		e        api.Errno
	}{
		{10, 40, []int{3, 4}, api.OK}, {10, 30, []int{3}, api.OK}, {20, 40, []int{4}, api.OK}, {31, 40, []int{4}, api.OK}, {10, 10, nil, api.OK}, {30, 30, nil, api.OK},
		{20, 30, nil, api.ErrNone}, {40, 10, nil, api.ErrNone}, {30, 40, nil, api.ErrNone}, {10, 20, nil, api.ErrNone}, {31, 30, nil, api.ErrNone},
		{11, 40, nil, api.ErrParcel}, {10, 41, nil, api.ErrParcel}, {0, 0, nil, api.ErrParcel}, {11, 11, nil, api.ErrParcel},
	} {
		if chain, e := find.Chain(l, 20, c.from, c.to); !slices.Equal(chain, c.want) || e != c.e {
			t.Errorf("Chain from %d to %d: %v, error %d", c.from, c.to, chain, e)
		}
		wrong := c.e
		if wrong == api.ErrNone {
			wrong = api.OK
		}
		if is, e := find.CheckChain(l, 20, c.from, c.to, c.want); is != (c.e == api.OK) || e != wrong {
			t.Errorf("CheckChain from %d to %d of %v: %v, error %d", c.from, c.to, c.want, is, e)
		}
	}
	for _, c := range []struct {
		from, to int
		chain    []int
	}{
		{10, 40, nil}, {10, 40, []int{3}}, {10, 40, []int{4}}, {10, 40, []int{4, 3}}, {10, 40, []int{3, 3, 4}}, {10, 40, []int{3, 4, 4}}, {10, 40, []int{1, 3, 4}},
		{10, 40, []int{0, 3, 4}}, {10, 40, []int{3, 4, 0}}, {10, 10, []int{3}}, {10, 10, []int{1}}, {30, 30, []int{0}}, {30, 30, []int{3}}, {30, 20, []int{0, 2}},
		{30, 40, []int{4}}, {30, 10, []int{0, 1}}, {10, 31, []int{3, 4}}, {20, 30, []int{3}}, {10, 40, []int{math.MaxInt, math.MinInt}},
	} {
		if is, e := find.CheckChain(l, 20, c.from, c.to, c.chain); is || e != api.OK {
			t.Errorf("CheckChain from %d to %d of %v: %v, error %d", c.from, c.to, c.chain, is, e)
		}
	}
}

// P3.1, C6: the shortest chain, and of several the first one; what is the same is one thing.
func TestShortest(t *testing.T) {
	// 10 is divided by 9 into 90 to 93; 8, 3 and 5 lead from these to 60, and 2, 7 and 1 by a longer way.
	l := read(t, "10 0 0 found 1 a oil 1 9 1", "11 0 0 found 1 a oil 1 9 1", "9 1 1 divided 100 5",
		"8 2 2 divided 90 2", "3 2 2 divided 91 2", "5 2 2 divided 92 2", "2 2 2 divided 93 2", "7 3 3 divided 20 2",
		"6 4 4 joined 80 31 50 71 110", "4 5 5 joined 60 94")
	for _, c := range []struct {
		from, to int
		want     []int
	}{{100, 60, []int{9, 3, 6}}, {100, 40, []int{9, 4}}, {90, 40, []int{8, 6, 4}}, {93, 40, []int{2, 7, 6, 4}}, {100, 70, []int{9, 2, 7}}, {110, 40, []int{6, 4}}} {
		if chain, e := find.Chain(l, 9, c.from, c.to); !slices.Equal(chain, c.want) || e != api.OK {
			t.Errorf("Chain from %d to %d: %v, error %d, want %v", c.from, c.to, chain, e, c.want)
		}
	}
	for _, chain := range [][]int{{9, 3, 6}, {9, 5, 6}, {9, 8, 6}, {9, 2, 7, 6}} {
		if is, e := find.CheckChain(l, 9, 100, 60, chain); !is || e != api.OK {
			t.Errorf("CheckChain of %v: %v, error %d", chain, is, e)
		}
	}
	l = read(t, "1 0 0 found 1 a oil 1 9 1", "2 0 0 found 1 a oil 1 9 1", "3 0 0 same 10 20", "4 1 1 divided 10 2")
	if ids, e := find.Origins(l, 1, 40); !slices.Equal(ids, []int{10}) || e != api.OK {
		t.Errorf("Origins: %v, error %d", ids, e)
	}
	if ids, e := find.Remains(l, 1, 20); len(ids) > 0 || e != api.ErrParcel {
		t.Errorf("Remains of what is another one: %v, error %d", ids, e)
	}
}

// P3.1, C5, C6, P3.6 and P3.8: origins, remains and chains are those of the model, and say the same.
func TestRandomOrigins(t *testing.T) {
	t.Parallel()
	r := rand.New(rand.NewPCG(3, 4))
	long := 0
	for range 30 {
		l := newWriter(r, 9, 0).list(30)
		known := l[len(l)-1].Known - r.IntN(2)*r.IntN(10)
		counts := modelCounting(l, known)
		parcels, moves := modelParcels(counts), modelMoves(counts)
		for _, from := range parcels {
			origins, e := find.Origins(l, known, from.Id)
			remains, f := find.Remains(l, known, from.Id)
			if len(origins) == 0 || len(remains) == 0 || e != api.OK || f != api.OK || !slices.IsSorted(origins) || !slices.IsSorted(remains) {
				t.Fatalf("%d of %+v at %d: Origins %v, error %d; Remains %v, error %d", from.Id, l, known, origins, e, remains, f)
			}
			for _, to := range parcels {
				chains := modelChains(parcels, from.Id, to.Id)
				leads := len(chains) > 0
				origins, _ := find.Origins(l, known, to.Id)
				if slices.Contains(origins, from.Id) != (leads && from.Found) || slices.Contains(remains, to.Id) != (leads && to.Into == 0) {
					t.Fatalf("%d to %d of %+v at %d: Origins %v, Remains %v, want %v", from.Id, to.Id, l, known, origins, remains, leads)
				}
				chain, e := find.Chain(l, known, from.Id, to.Id)
				if !leads && e != api.ErrNone || leads && (e != api.OK || !slices.Equal(chain, chains[0])) {
					t.Fatalf("Chain from %d to %d of %+v at %d: %v, error %d, want %v", from.Id, to.Id, l, known, chain, e, chains)
				}
				for _, chain := range append(chains, spoiltChain(r, chains, moves), nil) {
					want := slices.ContainsFunc(chains, func(c []int) bool { return slices.Equal(c, chain) })
					if is, e := find.CheckChain(l, known, from.Id, to.Id, chain); is != want || e != api.OK {
						t.Fatalf("CheckChain from %d to %d of %v: %v, error %d", from.Id, to.Id, chain, is, e)
					}
				}
				if len(chain) > 2 {
					long++
				}
			}
		}
	}
	if long < 20 {
		t.Errorf("only %d long chains", long)
	}
}

// spoiltChain returns a list of moves that mostly is no chain.
func spoiltChain(r *rand.Rand, chains [][]int, moves []int) []int {
	var out []int
	if len(chains) > 0 {
		out = slices.Clone(chains[0])
	}
	move := r.IntN(300)
	if len(moves) > 0 && r.IntN(3) > 0 {
		move = moves[r.IntN(len(moves))]
	}
	if len(out) > 0 && r.IntN(3) > 0 {
		out[r.IntN(len(out))] = move
		return out
	}
	return slices.Insert(out, r.IntN(len(out)+1), move)
}
