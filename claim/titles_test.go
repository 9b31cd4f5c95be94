package claim_test

import (
	"math"
	"math/rand/v2"
	"slices"
	"testing"

	"lagan/api"
	"lagan/claim"
)

// P5.1, E5: the chapter's examples, and the hours around them.
func TestTitles(t *testing.T) {
	l := sample(t)
	for _, c := range []struct {
		known, hour, deadline int
		want                  string
	}{
		{0, 7, -1, "7 1/2, 20 1/2"}, {0, 8, -1, "7 1/3, 20 1/2, 21 1/6"}, {0, 4, -1, "7 1/1"}, {0, 5, -1, "7 1/2, 20 1/2"},
		{-1, 8, -1, "7 1/1"}, {math.MinInt, math.MaxInt, -1, "7 1/1"}, {0, math.MinInt, 0, "7 1/1"}, {0, -1, -1, "7 1/1"},
		{12, 10, -1, "7 1/3, 20 3/8, 21 1/6, 22 1/8"}, {9, 10, -1, "7 1/3, 20 3/8, 21 1/6, 22 1/8"}, {8, 10, -1, "7 1/3, 20 1/2, 21 1/6"},
		{12, 9, -1, "7 1/3, 20 1/2, 21 1/6"},
		{12, 21, 20, "0 13/24, 7 1/3, 22 1/8"}, {12, 20, 20, "7 1/3, 20 3/8, 21 1/6, 22 1/8"}, {11, 21, 20, "0 1/1"},
		{12, 12, 11, "0 1/1"}, {12, 13, 12, "0 13/24, 7 1/3, 22 1/8"},
		{40, 31, 30, "0 2/3, 7 1/3"}, {39, 31, 30, "0 13/24, 7 1/3, 22 1/8"}, {40, 31, 29, "0 13/24, 7 1/3, 22 1/8"},
		{50, 60, 30, "0 1/1"}, {50, 59, 30, "0 2/3, 7 1/3"}, {49, 60, 30, "0 2/3, 7 1/3"}, {50, 60, -1, "0 1/3, 20 3/8, 21 1/6, 22 1/8"},
		{math.MaxInt, math.MaxInt, math.MaxInt, "0 1/3, 20 3/8, 21 1/6, 22 1/8"}, {50, math.MaxInt, math.MaxInt - 1, "0 1/1"},
		{0, 1, 0, "0 1/1"}, {0, 8, 6, "0 1/1"}, {0, 1, 1000000, "7 1/1"},
	} {
		got, e := claim.Titles(l, 1, 3, 7, c.known, c.hour, c.deadline)
		want := titles(t, c.want)
		if !slices.Equal(got, want) || e != api.OK {
			t.Errorf("Titles at %d, known at %d, deadline %d: %v, error %d, want %v", c.hour, c.known, c.deadline, got, e, want)
		}
		for party := 0; party <= 40; party++ {
			share := shareIn(want, party)
			if a, e := claim.ShareOf(l, 1, 3, 7, c.known, c.hour, c.deadline, party); a != share || e != api.OK {
				t.Errorf("ShareOf of %d at %d, known at %d, deadline %d: %v, error %d", party, c.hour, c.known, c.deadline, a, e)
			}
		}
	}
}

// P5.1, E5: other packages, other owners, and the order of the deeds.
func TestTitlesOrder(t *testing.T) {
	for _, c := range []struct {
		what                        string
		lines                       []string
		loss, pack, owner, deadline int
		want                        string
	}{
		{"another loss", []string{"1 0 5 sold 1 3 7 8 1 2"}, 2, 3, 7, -1, "7 1/1"},
		{"another package", []string{"1 0 5 sold 1 3 7 8 1 2"}, 1, 2, 7, -1, "7 1/1"},
		{"another owner", []string{"1 0 5 sold 1 3 7 8 1 2"}, 1, 3, 8, -1, "8 1/1"},
		{"the last package", []string{"1 0 5 sold 20 200 40 1 1 2"}, 20, 200, 40, -1, "1 1/2, 40 1/2"},
		{"by Hours, not by the list", []string{"1 0 6 sold 1 3 8 9 1 1", "2 0 5 sold 1 3 7 8 1 2"}, 1, 3, 7, -1, "7 1/2, 9 1/2"},
		{"as listed in one Hour", []string{"2 0 5 sold 1 3 8 9 1 1", "1 0 5 sold 1 3 7 8 1 2"}, 1, 3, 7, -1, "7 1/2, 8 1/2"},
		{"as listed in one Hour, whatever the Ids", []string{"2 0 5 sold 1 3 7 8 1 2", "1 0 5 sold 1 3 8 9 1 1"}, 1, 3, 7, -1, "7 1/2, 9 1/2"},
		{"all to another party", []string{"1 0 5 paid 1 3 7 8 1 1"}, 1, 3, 7, -1, "8 1/1"},
		{"left to another party", []string{"1 0 5 paid 1 3 7 8 1 3", "2 0 5 left 1 3 8 7"}, 1, 3, 7, -1, "7 1/1"},
		{"back and forth", []string{"1 0 5 paid 1 3 7 8 1 3", "2 0 6 sold 1 3 8 7 1 2"}, 1, 3, 7, -1, "7 5/6, 8 1/6"},
		{"got behind the deadline", []string{"1 0 5 claim 1 3 7", "2 0 21 sold 1 3 7 8 1 4"}, 1, 3, 7, 20, "7 3/4, 8 1/4"},
		{"got at the deadline", []string{"1 0 5 claim 1 3 7", "2 0 20 sold 1 3 7 8 1 4"}, 1, 3, 7, 20, "0 1/4, 7 3/4"},
		{"forfeit, and behind it nothing to sell", []string{"1 0 21 sold 1 3 7 8 1 4"}, 1, 3, 7, 20, "0 1/1"},
		{"a claim at the deadline", []string{"1 9 20 claim 1 3 7"}, 1, 3, 7, 20, "7 1/1"},
		{"a claim behind the deadline", []string{"1 0 21 claim 1 3 7"}, 1, 3, 7, 20, "0 1/1"},
		{"a claim of another package", []string{"1 0 2 claim 1 4 7"}, 1, 3, 7, 20, "0 1/1"},
		{"a claim of another loss", []string{"1 0 2 claim 2 3 7"}, 1, 3, 7, 20, "0 1/1"},
		{"a claim of another party", []string{"1 0 2 claim 1 3 8"}, 1, 3, 7, 20, "0 1/1"},
		{"withdrawn before it was made", []string{"1 0 12 claim 1 3 7", "2 0 3 withdraw 1"}, 1, 3, 7, 20, "0 1/1"},
		{"withdrawn at the deadline", []string{"1 0 12 claim 1 3 7", "2 0 20 withdraw 1"}, 1, 3, 7, 20, "0 1/1"},
		{"withdrawn behind the deadline", []string{"1 0 12 claim 1 3 7", "2 0 21 withdraw 1"}, 1, 3, 7, 20, "7 1/1"},
		{"one of two claims withdrawn", []string{"1 0 12 claim 1 3 7", "2 0 9 claim 1 3 7", "3 0 13 withdraw 1"}, 1, 3, 7, 20, "7 1/1"},
		{"both claims withdrawn", []string{"1 0 12 claim 1 3 7", "2 0 9 claim 1 3 7", "3 0 13 withdraw 1", "4 0 13 withdraw 2"}, 1, 3, 7, 20, "0 1/1"},
		{"a withdrawal that is void", []string{"1 0 12 claim 1 3 7", "2 0 13 withdraw 1", "3 0 void 2"}, 1, 3, 7, 20, "7 1/1"},
		{"a claim that is void", []string{"1 0 12 claim 1 3 7", "3 0 void 1"}, 1, 3, 7, 20, "0 1/1"},
		{"a sale that is void", []string{"1 0 5 sold 1 3 7 8 1 2", "3 0 void 1"}, 1, 3, 7, -1, "7 1/1"},
		{"to the crown twice", []string{"1 0 5 sold 1 3 7 8 1 2", "3 0 6 left 1 3 7 0", "4 0 7 claim 1 3 8", "5 0 30 left 1 3 8 0"}, 1, 3, 7, 20, "0 1/1"},
	} {
		l := register(t, c.lines...)
		if got, e := claim.Titles(l, c.loss, c.pack, c.owner, 1000000, 1000000, c.deadline); !slices.Equal(got, titles(t, c.want)) || e != api.OK {
			t.Errorf("%s: %v, error %d, want %s", c.what, got, e, c.want)
		}
	}
}

// outOfRange is a register by which the parties 1 and 2 have 1/1994 and 1/2018: if the crown gets both, it has what is
// not in range, until it gets all.
func outOfRange(t testing.TB, more ...string) []api.Deed {
	return register(t, append([]string{
		"1 0 1 sold 1 3 7 8 1 2", "2 0 2 sold 1 3 7 1 1 997", "3 0 3 sold 1 3 8 2 1 1009",
	}, more...)...)
}

// P5.1, E5, E6: deeds by which something would not be in range do nothing.
func TestIdle(t *testing.T) {
	for _, c := range []struct {
		what  string
		lines []string
		idle  []int
		want  string
	}{
		{"none", []string{"1 0 5 sold 1 3 7 8 1 2", "2 0 5 left 1 3 8 9"}, nil, "7 1/2, 9 1/2"},
		{"nothing to sell", []string{"4 0 5 sold 1 3 8 9 1 2", "3 0 5 paid 1 3 9 8 1 2", "2 0 5 left 1 3 8 0", "1 0 5 left 1 3 9 1"}, []int{1, 2, 3, 4}, "7 1/1"},
		{"nothing left", []string{"1 0 5 left 1 3 7 8", "2 0 6 sold 1 3 7 9 1 2"}, []int{2}, "8 1/1"},
		{"what goes over", []string{"1 0 5 sold 1 3 7 8 1 1000", "2 0 6 sold 1 3 8 9 1 1001", "3 0 7 sold 1 3 8 9 1 1000"}, []int{2}, "7 999/1000, 8 999/1000000, 9 1/1000000"},
		{"what goes over, of one Hour", []string{"1 0 5 sold 1 3 7 8 1 1000000", "2 0 6 sold 1 3 7 8 1 999999", "3 0 6 sold 1 3 7 8 1 3"}, []int{3}, "7 499999/500000, 8 1/500000"},
		{"what remains", []string{"1 0 5 sold 1 3 7 8 1 999", "2 0 6 sold 1 3 8 9 999 1000", "3 0 7 sold 1 3 8 10 999 1000"}, []int{3}, "7 998/999, 8 1/999000, 9 1/1000"},
		{"what comes to be", []string{"1 0 5 sold 1 3 7 8 1 2", "2 0 6 sold 1 3 7 9 1 997", "3 0 7 sold 1 3 8 10 1 1009", "4 0 8 left 1 3 9 10"}, []int{4}, "7 498/997, 8 504/1009, 9 1/1994, 10 1/2018"},
		{"what the crown would have", []string{"1 0 5 sold 1 3 7 8 1 2", "2 0 6 sold 1 3 7 9 1 997", "3 0 7 sold 1 3 8 10 1 1009", "4 0 8 left 1 3 9 0", "5 0 8 left 1 3 10 0"}, []int{5}, "0 1/1994, 7 498/997, 8 504/1009, 10 1/2018"},
		{"void ones are none", []string{"1 0 5 sold 1 3 8 7 1 2", "2 0 void 1"}, nil, "7 1/1"},
		{"claims are none", []string{"1 0 5 claim 1 3 8", "2 0 7 withdraw 1"}, nil, "7 1/1"},
		{"those of other packages are none", []string{"1 0 5 sold 1 2 8 7 1 2", "2 0 5 sold 2 3 8 7 1 2"}, nil, "7 1/1"},
		{"at the last hour", []string{"1 0 1000000 sold 1 3 8 7 1 2"}, []int{1}, "7 1/1"},
	} {
		l := register(t, c.lines...)
		idle, e := claim.Idle(l, 1, 3, 7, 0, -1)
		same(t, c.what, idle, c.idle)
		want := titles(t, c.want)
		got, g := claim.Titles(l, 1, 3, 7, 0, 1000000, -1)
		if !slices.Equal(got, want) || e != api.OK || g != api.OK {
			t.Errorf("%s: %v, errors %d, %d, want %v", c.what, got, e, g, want)
		}
	}
	l := sample(t, "8 50 61 sold 1 3 7 9 1 2", "9 51 31 sold 1 3 20 9 1 2", "10 51 void 7")
	for _, c := range []struct {
		known, deadline int
		want            []int
	}{{49, 30, nil}, {50, 30, []int{8}}, {50, 29, []int{8}}, {51, 30, []int{9}}, {51, 31, nil}, {51, 1000000, nil}, {51, 1000001, nil}, {51, -1, nil}, {0, 4, []int{1, 2}}, {0, 5, []int{2}}, {0, 0, []int{1, 2}}} {
		idle, e := claim.Idle(l, 1, 3, 7, c.known, c.deadline)
		same(t, "Idle", idle, c.want)
		if e != api.OK {
			t.Errorf("Idle, known at %d, deadline %d: error %d", c.known, c.deadline, e)
		}
	}
}

// P5.1: ErrLimit if what the crown has behind some party at the deadline is not in range.
func TestForfeitLimit(t *testing.T) {
	l := outOfRange(t)
	for _, c := range []struct {
		what                  string
		l                     []api.Deed
		known, hour, deadline int
		want                  api.Errno
	}{
		{"behind the second party", l, 0, 10, 9, api.ErrLimit},
		{"before the deadline", l, 0, 9, 9, api.OK},
		{"without a deadline", l, 0, 10, -1, api.OK},
		{"long behind the deadline", l, 0, math.MaxInt, 9, api.ErrLimit},
		{"with one sale less", l, 0, 10, 2, api.OK},
		{"before it is known", l, -1, 10, 9, api.OK},
		{"with the second party's claim", outOfRange(t, "4 0 0 claim 1 3 2"), 0, 10, 9, api.OK},
		{"with the first party's claim, behind the third party", outOfRange(t, "4 0 0 claim 1 3 1"), 0, 10, 9, api.ErrLimit},
		{"with the claims of the first party and the third", outOfRange(t, "4 0 0 claim 1 3 1", "5 0 0 claim 1 3 7"), 0, 10, 9, api.OK},
		{"with the claims of the later ones", outOfRange(t, "4 0 0 claim 1 3 7", "5 0 0 claim 1 3 8"), 0, 10, 9, api.ErrLimit},
		{"with a claim that comes later", outOfRange(t, "4 0 10 claim 1 3 2"), 0, 10, 9, api.ErrLimit},
		{"with what was abandoned to the crown", outOfRange(t, "4 0 4 left 1 3 1 0"), 0, 10, 9, api.ErrLimit},
		{"with a void", outOfRange(t, "4 3 void 3"), 3, 10, 9, api.OK},
	} {
		got, e := claim.Titles(c.l, 1, 3, 7, c.known, c.hour, c.deadline)
		if e != c.want || e != api.OK && len(got) > 0 {
			t.Errorf("%s: Titles: %v, error %d, want %d", c.what, got, e, c.want)
		}
		for party := range 41 {
			share, e := claim.ShareOf(c.l, 1, 3, 7, c.known, c.hour, c.deadline, party)
			if e != c.want || e != api.OK && share != (api.Frac{}) {
				t.Errorf("%s: ShareOf %d: %v, error %d, want %d", c.what, party, share, e, c.want)
			}
			ids, e := claim.Lineage(c.l, 1, 3, 7, c.known, c.hour, c.deadline, party)
			if e != c.want || e != api.OK && len(ids) > 0 {
				t.Errorf("%s: Lineage of %d: %v, error %d, want %d", c.what, party, ids, e, c.want)
			}
		}
	}
	for deadline, want := range map[int]api.Errno{-1: api.OK, 2: api.OK, 3: api.ErrLimit, 1000000: api.ErrLimit, 1000001: api.OK, math.MaxInt: api.OK} {
		if ids, e := claim.Idle(l, 1, 3, 7, 0, deadline); e != want || len(ids) > 1 {
			t.Errorf("Idle with the deadline %d: %v, error %d, want %d", deadline, ids, e, want)
		}
	}
}

// P5.1, E6: who claims a package by an hour.
func TestClaimed(t *testing.T) {
	l := sample(t, "8 50 void 6", "9 51 0 claim 1 3 40", "10 51 0 claim 1 3 1", "11 51 0 claim 1 2 2", "12 51 0 claim 2 3 3", "13 51 14 claim 1 3 22", "14 52 0 withdraw 4")
	for _, c := range []struct {
		loss, pack, known, hour int
		want                    []int
	}{
		{1, 3, 40, 29, []int{7, 22}}, {1, 3, 40, 30, []int{7}}, {1, 3, 39, 30, []int{7, 22}}, {1, 3, 12, 11, nil}, {1, 3, 12, 12, []int{7, 22}}, {1, 3, 11, 12, nil},
		{1, 3, 50, 30, []int{7, 22}}, {1, 3, 51, 30, []int{1, 7, 22, 40}}, {1, 3, 51, 0, []int{1, 40}}, {1, 3, 51, -1, nil}, {1, 3, 52, 12, []int{1, 22, 40}}, {1, 3, 52, 11, []int{1, 40}},
		{1, 2, 51, 0, []int{2}}, {2, 3, 51, 0, []int{3}}, {2, 2, 51, 0, nil}, {0, 0, 99, 99, nil}, {21, 3, 99, 99, nil}, {1, 201, 99, 99, nil}, {-1, -1, 99, 99, nil},
		{1, 3, math.MaxInt, math.MaxInt, []int{1, 22, 40}}, {1, 3, math.MinInt, math.MaxInt, nil}, {1, 3, math.MaxInt, math.MinInt, nil},
	} {
		same(t, "Claimed", claim.Claimed(l, c.loss, c.pack, c.known, c.hour), c.want)
	}
	for _, bad := range [][]api.Deed{manyDeeds(301), append(slices.Clone(l), l[3])} {
		if got := claim.Claimed(bad, 6, 5, 99, 99); len(got) > 0 {
			t.Errorf("Claimed of no register: %v", got)
		}
	}
}

// P5.1, E6: deeds that can come next.
func TestPossible(t *testing.T) {
	l := sample(t)
	limit := outOfRange(t)
	for _, c := range []struct {
		what            string
		l               []api.Deed
		line            string
		owner, deadline int
		want            api.Errno
	}{
		{"who has nothing", l, "8 50 70 sold 1 3 9 7 1 1", 7, -1, api.ErrIdle},
		{"who has nothing, with a wrong owner", l, "8 50 70 sold 1 3 9 7 1 1", 0, -1, api.ErrArg},
		{"who has something", l, "8 50 70 sold 1 3 20 7 1 1", 7, -1, api.OK},
		{"who has had something", l, "8 50 61 sold 1 3 7 9 1 1", 7, -1, api.ErrIdle},
		{"who has something yet", l, "8 50 59 sold 1 3 7 9 1 1", 7, -1, api.OK},
		{"in one Hour, behind what is listed", l, "8 50 60 sold 1 3 7 9 1 1", 7, -1, api.ErrIdle},
		{"whose share is forfeit", l, "8 50 70 sold 1 3 20 7 1 1", 7, 30, api.ErrIdle},
		{"whose share is not yet forfeit", l, "8 50 30 sold 1 3 20 7 1 1", 7, 30, api.OK},
		{"forfeit at the end", l, "8 50 1000000 sold 1 3 20 7 1 1", 7, 1000000, api.OK},
		{"what is not in range", l, "8 50 30 sold 1 3 20 7 1 999983", 7, -1, api.ErrIdle},
		{"one that makes another one idle", l, "8 50 30 sold 1 3 7 9 1 1", 7, -1, api.OK},
		{"another package", l, "8 50 30 sold 1 4 7 9 1 1", 7, -1, api.OK},
		{"another package, another owner", l, "8 50 30 left 1 4 7 0", 8, -1, api.ErrIdle},
		{"a claim of nothing", l, "8 50 70 claim 1 3 9", 7, 30, api.OK},
		{"a claim, with a wrong owner", l, "8 50 70 claim 1 3 9", 41, 30, api.ErrArg},
		{"a withdrawal", l, "8 50 70 withdraw 4", 7, 30, api.OK},
		{"a withdrawal, with a wrong owner", l, "8 50 70 withdraw 4", -1, 30, api.ErrArg},
		{"a withdrawal, with a wrong deadline", l, "8 50 70 withdraw 4", 7, -2, api.ErrArg},
		{"a void", l, "8 50 void 1", 7, 30, api.OK},
		{"a void, with a wrong deadline", l, "8 50 void 1", 7, math.MinInt, api.ErrArg},
		{"a void of a withdrawal", l, "8 50 void 6", 7, 30, api.OK},
		{"an Id twice, with a wrong owner", l, "1 50 30 sold 1 3 7 9 1 1", 0, -2, api.ErrTwice},
		{"early", l, "8 49 30 sold 1 3 7 9 1 1", 0, -2, api.ErrTime},
		{"a withdrawal of nothing", l, "8 50 70 withdraw 1", 0, -2, api.ErrNone},
		{"out of range at the deadline, with a wrong deadline", limit, "8 50 10 sold 1 3 7 9 1 2", 7, -2, api.ErrArg},
		{"out of range at the deadline", limit, "8 50 10 sold 1 3 7 9 1 2", 7, 9, api.ErrLimit},
		{"out of range at the deadline, and idle", limit, "8 50 10 sold 1 3 30 9 1 2", 7, 9, api.ErrLimit},
		{"out of range at the deadline, a claim", limit, "8 50 10 claim 1 3 7", 7, 9, api.OK},
		{"out of range at the deadline, a void", limit, "8 50 void 1", 7, 9, api.OK},
		{"out of range at the deadline, another package", limit, "8 50 10 sold 1 2 7 9 1 2", 7, -1, api.OK},
		{"out of range at the deadline, but not with it", limit, "8 50 4 left 1 3 1 8", 7, 9, api.ErrLimit},
		{"out of range at the deadline, but with it in range", limit, "8 50 0 left 1 3 7 8", 7, 9, api.OK},
		{"in range at the deadline, but not with it", limit[:2], "8 50 3 sold 1 3 8 2 1 1009", 7, 9, api.ErrLimit},
	} {
		if e := claim.Possible(c.l, read(t, c.line)[0], c.owner, c.deadline); e != c.want {
			t.Errorf("%s: error %d, want %d", c.what, e, c.want)
		}
	}
	if e := claim.Possible(l, api.Deed{}, 0, -2); e != api.ErrArg {
		t.Errorf("no deed: error %d", e)
	}
	if e := claim.Possible(manyDeeds(300), aPaid, 0, -2); e != api.ErrLimit {
		t.Errorf("one deed too many: error %d", e)
	}
	if e := claim.Possible(append(slices.Clone(l), l[0]), api.Deed{}, 0, -2); e != api.ErrTwice {
		t.Errorf("no register: error %d", e)
	}
}

// P5.1, E5, E6: many registers, as the chapter says it.
func TestTitlesModel(t *testing.T) {
	t.Parallel()
	r := rand.New(rand.NewPCG(5, 5))
	limits, idles, shared, crowned := 0, 0, 0, 0
	for range 20000 {
		a := randomAsked(r)
		want, e := a.titles()
		got, g := claim.Titles(a.l, a.loss, a.pack, a.owner, a.known, a.hour, a.deadline)
		if !slices.Equal(got, want) || g != e {
			t.Fatalf("Titles of %+v: %v, error %d, want %v, error %d", a, got, g, want, e)
		}
		for _, party := range []int{0, a.party, 40} {
			share := api.Frac{}
			if e == api.OK {
				share = shareIn(want, party)
			}
			if s, g := claim.ShareOf(a.l, a.loss, a.pack, a.owner, a.known, a.hour, a.deadline, party); s != share || g != e {
				t.Fatalf("ShareOf %d of %+v: %v, error %d, want %v, error %d", party, a, s, g, share, e)
			}
		}
		late := a
		late.hour = 1000001
		_, idle, is := late.title()
		e = api.OK
		if !is {
			idle, e = nil, api.ErrLimit
			limits++
		}
		ids, g := claim.Idle(a.l, a.loss, a.pack, a.owner, a.known, a.deadline)
		if !slices.Equal(ids, idle) || g != e {
			t.Fatalf("Idle of %+v: %v, error %d, want %v, error %d", a, ids, g, idle, e)
		}
		var parties []int
		for party := 1; party <= 40; party++ {
			if a.claims(party, a.hour) {
				parties = append(parties, party)
			}
		}
		same(t, "Claimed", claim.Claimed(a.l, a.loss, a.pack, a.known, a.hour), parties)
		idles += min(len(idle), 1)
		shared += len(want) / 3
		if len(want) > 1 && want[0].Party == 0 {
			crowned++
		}
	}
	if limits < 20 || idles < 1000 || shared < 1000 || crowned < 1000 {
		t.Errorf("only %d out of range, %d with idle deeds, %d with several parties, %d with the crown", limits, idles, shared, crowned)
	}
}

// P5.1, E6: many deeds that can come next, or cannot.
func TestPossibleModel(t *testing.T) {
	t.Parallel()
	r := rand.New(rand.NewPCG(5, 6))
	count := map[api.Errno]int{}
	for range 20000 {
		a := randomAsked(r)
		x := randomDeed(r, a.l)
		longer, want := claim.Append(a.l, x)
		if want == api.OK && x.Kind <= 3 {
			a.l, a.loss, a.pack, a.known, a.hour = longer, x.Loss, x.Pack, x.Known, 1000001
			_, idle, is := a.title()
			if !is {
				want = api.ErrLimit
			} else if slices.Contains(idle, x.Id) {
				want = api.ErrIdle
			}
			a.l = longer[:len(longer)-1]
		}
		if e := claim.Possible(a.l, x, a.owner, a.deadline); e != want {
			t.Fatalf("Possible of %+v behind %+v: error %d, want %d", x, a, e, want)
		}
		count[want]++
	}
	for _, e := range []api.Errno{api.OK, api.ErrLimit, api.ErrIdle, api.ErrNone, api.ErrTwice} {
		if count[e] < 20 {
			t.Errorf("only %d with the error %d", count[e], e)
		}
	}
}

// P5.2: shares are greater than 0 and add up to 1.
func TestSharesAddUp(t *testing.T) {
	r := rand.New(rand.NewPCG(5, 22))
	for range 10000 {
		a := randomAsked(r)
		got, e := claim.Titles(a.l, a.loss, a.pack, a.owner, a.known, a.hour, a.deadline)
		sum := integer(0)
		for _, x := range got {
			if x.Share.Num <= 0 {
				t.Fatalf("%+v: %v", a, got)
			}
			sum.Add(sum, rat(x.Share))
		}
		if e == api.OK && sum.Cmp(integer(1)) != 0 {
			t.Fatalf("%+v: %v", a, got)
		}
	}
}

// P5.4: two payments by the same parties are as one of p + q - p * q.
func TestSubrogation(t *testing.T) {
	r := rand.New(rand.NewPCG(5, 44))
	held := 0
	for range 20000 {
		a := randomAsked(r)
		a.known, a.deadline = 1000000, -1
		at := r.IntN(len(a.l) + 1)
		p, q := randomShare(r), randomShare(r)
		pq, e := claim.Mul(p, q)
		sum, g := claim.Add(p, q)
		one, h := claim.Sub(sum, pq)
		if e != api.OK || g != api.OK || h != api.OK {
			continue
		}
		x := api.Deed{Id: 901, Hour: r.IntN(20), Kind: 1, Loss: 1, Pack: a.pack, From: a.owner, To: 6, Share: p}
		if at > 0 {
			x.Known = a.l[at-1].Known
		}
		y, z := x, x
		y.Id, y.Share = 902, q
		z.Share = one
		two := slices.Concat(a.l[:at], []api.Deed{x, y}, a.l[at:])
		single := slices.Concat(a.l[:at], []api.Deed{z}, a.l[at:])
		if isIdleFrom(t, two, a, x.Id) || isIdleFrom(t, single, a, z.Id) {
			continue
		}
		held++
		got, e := claim.Titles(two, 1, a.pack, a.owner, a.known, a.hour, -1)
		want, g := claim.Titles(single, 1, a.pack, a.owner, a.known, a.hour, -1)
		if !slices.Equal(got, want) && a.hour >= x.Hour || e != api.OK || g != api.OK {
			t.Fatalf("%+v: %v, error %d; %v, error %d", two, got, e, want, g)
		}
	}
	if held < 1000 {
		t.Errorf("only %d registers were held against each other", held)
	}
}

// isIdleFrom reports whether a deed, or one that is done behind it, is idle.
func isIdleFrom(t testing.TB, l []api.Deed, a asked, id int) bool {
	t.Helper()
	idle, e := claim.Idle(l, 1, a.pack, a.owner, a.known, a.deadline)
	if e != api.OK {
		t.Fatalf("Idle: error %d", e)
	}
	behind := false
	for _, x := range claim.Counting(l, a.known) {
		behind = behind || x.Id == id
		if behind && slices.Contains(idle, x.Id) {
			return true
		}
	}
	return false
}

// P5.5: up to the deadline the crown has what was abandoned to it; behind it nobody who did not claim has anything,
// but what came later.
func TestCrown(t *testing.T) {
	r := rand.New(rand.NewPCG(5, 55))
	early, late := 0, 0
	for range 20000 {
		a := randomAsked(r)
		got, e := claim.Titles(a.l, a.loss, a.pack, a.owner, a.known, a.hour, a.deadline)
		if e != api.OK {
			continue
		}
		abandoned, got2 := false, map[int]bool{}
		for _, x := range a.moves() {
			abandoned = abandoned || x.To == 0 && x.Hour <= a.hour
			if x.Hour > a.deadline && x.Hour <= a.hour {
				got2[x.To] = true
			}
		}
		if a.deadline == -1 || a.hour <= a.deadline {
			if len(got) > 0 && got[0].Party == 0 {
				early++
				if !abandoned {
					t.Fatalf("%+v: %v", a, got)
				}
			}
			continue
		}
		claimed := claim.Claimed(a.l, a.loss, a.pack, a.known, a.deadline)
		for _, x := range got {
			late++
			if x.Party != 0 && !slices.Contains(claimed, x.Party) && !got2[x.Party] {
				t.Fatalf("%+v: %v", a, got)
			}
		}
	}
	if early < 100 || late < 100 {
		t.Errorf("only %d and %d shares", early, late)
	}
}

// P5.6: what a title does not depend on.
func TestHours(t *testing.T) {
	r := rand.New(rand.NewPCG(5, 66))
	for range 10000 {
		a := randomAsked(r)
		want, e := claim.Titles(a.l, a.loss, a.pack, a.owner, a.known, a.hour, a.deadline)
		var ids []int
		turns := map[int]bool{a.deadline + 1: true}
		var until []api.Deed
		for _, x := range claim.Counting(a.l, a.known) {
			turns[x.Hour] = true
			other := x.Kind <= 4 && (x.Loss != a.loss || x.Pack != a.pack)
			if x.Hour <= a.hour && !other {
				ids = append(ids, x.Id)
			}
		}
		for _, x := range a.l {
			if x.Known <= a.known {
				until = append(until, x)
			}
		}
		got, g := claim.Only(a.l, a.loss, a.pack, a.owner, a.known, a.hour, a.deadline, ids)
		if !slices.Equal(got, want) || g != e {
			t.Fatalf("%+v: without later Hours and other packages %v, error %d, want %v, error %d", a, got, g, want, e)
		}
		got, g = claim.Titles(until, a.loss, a.pack, a.owner, a.known, a.hour, a.deadline)
		if !slices.Equal(got, want) || g != e {
			t.Fatalf("%+v: without what is known later %v, error %d, want %v, error %d", a, got, g, want, e)
		}
		if !turns[a.hour] && a.hour > 0 {
			got, g = claim.Titles(a.l, a.loss, a.pack, a.owner, a.known, a.hour-1, a.deadline)
			if !slices.Equal(got, want) || g != e {
				t.Fatalf("%+v: an hour before %v, error %d, want %v, error %d", a, got, g, want, e)
			}
		}
	}
}
