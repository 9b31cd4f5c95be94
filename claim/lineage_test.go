package claim_test

import (
	"math"
	"math/rand/v2"
	"slices"
	"testing"

	"lagan/api"
	"lagan/claim"
)

// P5.1, E7: what is left out is gone through from the end of the register.
func TestLineage(t *testing.T) {
	l := sample(t)
	twice := []string{"3 0 5 claim 1 3 7", "1 0 6 claim 1 3 7", "2 0 7 claim 1 3 8"}
	for _, c := range []struct {
		what                        string
		l                           []api.Deed
		known, hour, deadline, with int
		want                        []int
	}{
		{"the example", l, 12, 10, -1, 22, []int{1, 3}},
		{"the owner", l, 12, 10, -1, 7, []int{1, 2}},
		{"the first insurer", l, 12, 10, -1, 20, []int{1, 3}},
		{"the second insurer", l, 12, 10, -1, 21, []int{1, 2}},
		{"who has nothing", l, 12, 10, -1, 23, nil},
		{"the crown that has nothing", l, 12, 10, -1, 0, nil},
		{"the crown behind the deadline", l, 12, 21, 20, 0, []int{1, 2, 3, 4, 5}},
		{"who claims behind the deadline", l, 12, 21, 20, 22, []int{1, 3, 5}},
		{"who claims no more, whose claim is left out behind the withdrawal", l, 40, 31, 30, 22, []int{6}},
		{"who has claimed, before the withdrawal", l, 40, 30, 29, 22, []int{1, 3, 5}},
		{"the crown behind a withdrawal", l, 40, 31, 30, 0, []int{1, 2, 4, 6}},
		{"the crown that has all", l, 50, 60, 30, 0, []int{6, 7}},
		{"who has left all", l, 50, 60, -1, 7, []int{7}},
		{"of two claims the first one listed", register(t, twice...), 0, 21, 20, 7, []int{3}},
		{"the crown that gets nothing", register(t, twice...), 0, 21, 20, 0, []int{3}},
		{"a claim that is withdrawn", register(t, append(twice, "4 1 8 withdraw 3")...), 1, 21, 20, 7, []int{3}},
		{"a withdrawal", register(t, "1 0 5 claim 1 3 7", "2 0 6 withdraw 1"), 0, 21, 20, 7, []int{2}},
		{"a withdrawal of the package, and one of another one", register(t, "1 0 5 claim 1 3 7", "3 0 5 claim 1 4 7", "2 0 6 withdraw 3"), 0, 21, 20, 7, []int{1}},
		{"one that is idle", register(t, "1 0 5 sold 1 3 8 9 1 2", "2 0 6 sold 1 3 7 8 1 2"), 0, 9, -1, 8, []int{2}},
		{"one that is idle because of another one", register(t, "1 0 5 left 1 3 7 8", "2 0 6 left 1 3 7 9"), 0, 9, -1, 8, []int{1}},
		{"there and back", register(t, "1 0 5 left 1 3 7 8", "2 0 6 left 1 3 8 7"), 0, 9, -1, 7, []int{2}},
		{"back, and there", register(t, "2 0 6 left 1 3 8 7", "1 0 5 left 1 3 7 8"), 0, 9, -1, 7, nil},
	} {
		ids, e := claim.Lineage(c.l, 1, 3, 7, c.known, c.hour, c.deadline, c.with)
		same(t, c.what, ids, c.want)
		if e != api.OK {
			t.Errorf("%s: error %d", c.what, e)
		}
	}
}

// P5.1, E7: a share that is not in range is another one than all others.
func TestLineageOutOfRange(t *testing.T) {
	// Without the claim of 1 or that of 7 the crown would have, of 2 and of one of these, what is not in range, so
	// that these claims stay, though the share of 8 is the same without them.
	l := outOfRange(t, "4 0 0 claim 1 3 1", "5 0 0 claim 1 3 7", "6 0 0 claim 1 3 8")
	for party, want := range map[int][]int{8: {1, 3, 4, 5, 6}, 7: {1, 2, 4, 5}, 3: {4, 5}, 0: {1, 3, 4, 5, 6}} {
		ids, e := claim.Lineage(l, 1, 3, 7, 0, 10, 9, party)
		same(t, "Lineage", ids, want)
		if e != api.OK {
			t.Errorf("Lineage of %d: error %d", party, e)
		}
	}
	ids, _ := claim.Lineage(l, 1, 3, 7, 0, 10, 9, 8)
	got, e := claim.Only(l, 1, 3, 7, 0, 10, 9, ids)
	if !slices.Contains(got, api.Title{Party: 8, Share: frac(504, 1009)}) || e != api.OK {
		t.Errorf("Only: %v, error %d", got, e)
	}
}

// P5.1, E7: titles by some deeds alone.
func TestOnly(t *testing.T) {
	l := sample(t, "8 51 void 6")
	limit := outOfRange(t, "4 0 0 claim 1 3 2")
	for _, c := range []struct {
		what                  string
		l                     []api.Deed
		known, hour, deadline int
		ids                   []int
		want                  string
		e                     api.Errno
	}{
		{"all", l, 12, 10, -1, []int{1, 2, 3, 4, 5, 6, 7, 8}, "7 1/3, 20 3/8, 21 1/6, 22 1/8", api.OK},
		{"in any order, and twice", l, 12, 10, -1, []int{3, 77, 1, -1, 1, 3, 0, math.MaxInt, math.MinInt}, "7 1/2, 20 3/8, 22 1/8", api.OK},
		{"none", l, 12, 10, -1, nil, "7 1/1", api.OK},
		{"one that is idle then", l, 12, 10, -1, []int{3}, "7 1/1", api.OK},
		{"one that is not known yet", l, 8, 10, -1, []int{1, 3}, "7 1/2, 20 1/2", api.OK},
		{"one of a later Hour", l, 12, 9, -1, []int{1, 3}, "7 1/2, 20 1/2", api.OK},
		{"without claims", l, 12, 21, 20, []int{1, 2, 3}, "0 1/1", api.OK},
		{"with a claim", l, 12, 21, 20, []int{1, 3, 5}, "0 7/8, 22 1/8", api.OK},
		{"with a claim, and its withdrawal", l, 40, 31, 30, []int{1, 3, 5, 6}, "0 1/1", api.OK},
		{"a claim without its withdrawal", l, 40, 31, 30, []int{1, 3, 5}, "0 7/8, 22 1/8", api.OK},
		{"a withdrawal without its claim", l, 40, 31, 30, []int{1, 4, 6}, "0 1/2, 7 1/2", api.OK},
		{"a withdrawal that is void, whose void is left out", l, 51, 31, 30, []int{1, 3, 5, 6}, "0 7/8, 22 1/8", api.OK},
		{"in range", limit, 0, 10, 9, []int{1, 2, 3, 4}, "0 2017/2018, 2 1/2018", api.OK},
		{"not in range any more", limit, 0, 10, 9, []int{1, 2, 3}, "", api.ErrLimit},
		{"in range again", limit[:3], 0, 10, 9, []int{1, 3}, "0 1/1", api.OK},
	} {
		got, e := claim.Only(c.l, 1, 3, 7, c.known, c.hour, c.deadline, c.ids)
		same(t, c.what, got, titles(t, c.want))
		if e != c.e {
			t.Errorf("%s: error %d, want %d", c.what, e, c.e)
		}
	}
}

// P5.1, E8: whose shares a further deed changes.
func TestReached(t *testing.T) {
	l := sample(t)
	limit := outOfRange(t)
	for _, c := range []struct {
		what                  string
		l                     []api.Deed
		line                  string
		owner, hour, deadline int
		want                  []int
		e                     api.Errno
	}{
		{"the example", l, "8 50 0 left 1 3 7 9", 7, 10, -1, []int{7, 9, 20, 21, 22}, api.OK},
		{"one of a later Hour", l, "8 50 11 left 1 3 7 9", 7, 10, -1, nil, api.OK},
		{"one that is idle", l, "8 50 7 left 1 3 9 7", 7, 10, -1, nil, api.OK},
		{"as known at it", l, "8 60 59 left 1 3 7 9", 7, 60, -1, []int{0, 9}, api.OK},
		{"to the crown", l, "8 50 10 left 1 3 22 0", 7, 10, -1, []int{0, 22}, api.OK},
		{"a void", l, "8 50 void 1", 7, 10, -1, []int{7, 20, 21, 22}, api.OK},
		{"a void of the last deed", l, "8 50 void 7", 7, 60, -1, []int{0, 7}, api.OK},
		{"a claim", l, "8 50 20 claim 1 3 20", 7, 21, 20, []int{0, 20}, api.OK},
		{"a claim that is too late", l, "8 50 21 claim 1 3 20", 7, 21, 20, nil, api.OK},
		{"a claim, before the deadline", l, "8 50 20 claim 1 3 20", 7, 20, 20, nil, api.OK},
		{"a withdrawal", l, "8 50 13 withdraw 4", 7, 21, 20, []int{0, 7}, api.OK},
		{"a withdrawal of what is withdrawn", l, "8 50 31 withdraw 5", 7, 31, 30, nil, api.OK},
		{"a void of a claim", l, "8 50 void 4", 7, 31, 30, []int{0, 7}, api.OK},
		{"a void of a withdrawal", l, "8 50 void 6", 7, 31, 30, []int{0, 22}, api.OK},
		{"another package", l, "8 50 10 left 1 4 7 9", 7, 10, -1, []int{7, 9}, api.OK},
		{"another package, and one of its owner", l, "8 50 10 sold 2 3 9 8 1 1", 9, 10, -1, []int{8, 9}, api.OK},
		{"the last party", l, "8 50 10 left 1 3 7 40", 7, 10, -1, []int{7, 40}, api.OK},
		{"an Id twice, with a wrong owner", l, "1 50 10 left 1 3 7 40", 0, 10, -2, nil, api.ErrTwice},
		{"early", l, "8 49 10 left 1 3 7 40", 0, 10, -2, nil, api.ErrTime},
		{"a void of nothing", l, "8 50 void 77", 0, 10, -2, nil, api.ErrNone},
		{"a wrong owner", l, "8 50 void 6", 0, 10, -1, nil, api.ErrArg},
		{"a wrong owner", l, "8 50 10 left 1 3 7 40", 41, 10, -1, nil, api.ErrArg},
		{"a wrong deadline", l, "8 50 13 withdraw 4", 7, 10, -2, nil, api.ErrArg},
		{"not in range, and a wrong deadline", limit, "8 50 13 claim 1 3 7", 7, 10, -2, nil, api.ErrArg},
		{"not in range", limit, "8 50 13 claim 1 3 7", 7, 10, 9, nil, api.ErrLimit},
		{"not in range, but with it", limit, "8 50 9 claim 1 3 2", 7, 10, 9, nil, api.ErrLimit},
		{"in range, but not with it", limit[:2], "8 50 3 sold 1 3 8 2 1 1009", 7, 10, 9, nil, api.ErrLimit},
		{"in range, before the deadline", limit[:2], "8 50 3 sold 1 3 8 2 1 1009", 7, 9, 9, []int{2, 8}, api.OK},
		{"not in range, a deed of another package", limit, "8 50 3 sold 1 4 7 2 1 1009", 7, 10, 9, nil, api.OK},
	} {
		got, e := claim.Reached(c.l, read(t, c.line)[0], c.owner, c.hour, c.deadline)
		same(t, c.what, got, c.want)
		if e != c.e {
			t.Errorf("%s: error %d, want %d", c.what, e, c.e)
		}
	}
	if got, e := claim.Reached(l, api.Deed{}, 0, 0, -2); e != api.ErrArg || len(got) > 0 {
		t.Errorf("no deed: %v, error %d", got, e)
	}
	if got, e := claim.Reached(manyDeeds(300), aPaid, 0, 0, -2); e != api.ErrLimit || len(got) > 0 {
		t.Errorf("one deed too many: %v, error %d", got, e)
	}
}

// P5.1, P5.7: many lineages, as the chapter says it; by their deeds alone the share is the same.
func TestLineageModel(t *testing.T) {
	t.Parallel()
	r := rand.New(rand.NewPCG(5, 7))
	long, kept := 0, 0
	for range 10000 {
		a := randomAsked(r)
		want, e := a.lineage()
		ids, g := claim.Lineage(a.l, a.loss, a.pack, a.owner, a.known, a.hour, a.deadline, a.party)
		if !slices.Equal(ids, want) || g != e {
			t.Fatalf("Lineage of %+v: %v, error %d, want %v, error %d", a, ids, g, want, e)
		}
		if e != api.OK {
			continue
		}
		long += len(ids) / 3
		share, _ := claim.ShareOf(a.l, a.loss, a.pack, a.owner, a.known, a.hour, a.deadline, a.party)
		got, e := claim.Only(a.l, a.loss, a.pack, a.owner, a.known, a.hour, a.deadline, ids)
		at := slices.IndexFunc(got, func(x api.Title) bool { return x.Party == a.party })
		if e != api.OK || at < 0 && share != frac(0, 1) || at >= 0 && got[at].Share != share {
			t.Fatalf("Only of %+v, by %v: %v, error %d, want %v", a, ids, got, e, share)
		}
		if at >= 0 {
			kept++
		}
	}
	if long < 300 || kept < 1000 {
		t.Errorf("only %d long lineages, %d shares", long, kept)
	}
}

// P5.1, E7: many titles by some deeds alone.
func TestOnlyModel(t *testing.T) {
	t.Parallel()
	r := rand.New(rand.NewPCG(5, 77))
	for range 10000 {
		a := randomAsked(r)
		var ids []int
		a.left = map[int]bool{}
		for _, x := range a.l {
			if r.IntN(3) == 0 && x.Kind != 6 {
				a.left[x.Id] = true
			} else {
				ids = append(ids, x.Id)
			}
		}
		want, e := a.titles()
		got, g := claim.Only(a.l, a.loss, a.pack, a.owner, a.known, a.hour, a.deadline, ids)
		if !slices.Equal(got, want) || g != e {
			t.Fatalf("Only of %+v: %v, error %d, want %v, error %d", a, got, g, want, e)
		}
	}
}

// P5.1, E8: many further deeds.
func TestReachedModel(t *testing.T) {
	t.Parallel()
	r := rand.New(rand.NewPCG(5, 8))
	count := map[api.Errno]int{}
	changes := 0
	for range 20000 {
		a := randomAsked(r)
		x := randomDeed(r, a.l)
		var want []int
		_, e := claim.Append(a.l, x)
		if e == api.OK {
			want, e = a.reached(x)
		}
		got, g := claim.Reached(a.l, x, a.owner, a.hour, a.deadline)
		if !slices.Equal(got, want) || g != e {
			t.Fatalf("Reached of %+v behind %+v: %v, error %d, want %v, error %d", x, a, got, g, want, e)
		}
		count[e]++
		changes += min(len(got), 1)
	}
	if count[api.ErrLimit] < 20 || count[api.OK] < 1000 || changes < 1000 {
		t.Errorf("only %v, %d changes", count, changes)
	}
}
