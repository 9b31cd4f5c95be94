package claim_test

import (
	"math/big"
	"math/rand/v2"
	"slices"
	"strconv"
	"strings"
	"testing"

	"lagan/api"
	"lagan/claim"
)

// The model says what chapter 5 says, as directly as possible, and slowly.

// read returns the deeds with some lines, in any order and number.
func read(t testing.TB, lines ...string) []api.Deed {
	t.Helper()
	var l []api.Deed
	for _, s := range lines {
		x, e := claim.Read(s)
		if e != api.OK {
			t.Fatalf("Read(%q): error %d", s, e)
		}
		l = append(l, x)
	}
	return l
}

// register returns the deeds with some lines, which are a register.
func register(t testing.TB, lines ...string) []api.Deed {
	t.Helper()
	l := read(t, lines...)
	if i, e := claim.Check(l); i != 0 || e != api.OK {
		t.Fatalf("Check: %d, error %d", i, e)
	}
	return l
}

// sample is the register of the chapter's examples, and what is behind it. The owner is 7.
func sample(t testing.TB, more ...string) []api.Deed {
	t.Helper()
	return register(t, append([]string{
		"1 0 5 paid 1 3 7 20 1 2",
		"2 0 8 paid 1 3 7 21 1 3",
		"3 9 10 sold 1 3 20 22 1 4",
		"4 12 12 claim 1 3 7",
		"5 12 12 claim 1 3 22",
		"6 40 30 withdraw 5",
		"7 50 60 left 1 3 7 0",
	}, more...)...)
}

// same compares lists.
func same[T comparable](t testing.TB, what string, got, want []T) {
	t.Helper()
	if !slices.Equal(got, want) {
		t.Errorf("%s: %v, want %v", what, got, want)
	}
}

func frac(num, den int) api.Frac { return api.Frac{Num: num, Den: den} }

// titles reads titles: parties with their shares, as in "0 1/2, 7 1/2".
func titles(t testing.TB, s string) []api.Title {
	t.Helper()
	var out []api.Title
	for _, part := range strings.FieldsFunc(s, func(c rune) bool { return c == ',' }) {
		words := strings.FieldsFunc(part, func(c rune) bool { return c == ' ' || c == '/' })
		var n [3]int
		for i, word := range words {
			k, err := strconv.Atoi(word)
			if err != nil || len(words) != len(n) {
				t.Fatalf("no titles: %q", s)
			}
			n[i] = k
		}
		out = append(out, api.Title{Party: n[0], Share: frac(n[1], n[2])})
	}
	return out
}

func rat(a api.Frac) *big.Rat { return big.NewRat(int64(a.Num), int64(a.Den)) }

func integer(n int) *big.Rat { return new(big.Rat).SetInt64(int64(n)) }

// inRange reports whether a number is the value of a valid fraction.
func inRange(r *big.Rat) bool {
	return r.Denom().Cmp(big.NewInt(1000000)) <= 0 && new(big.Int).Abs(r.Num()).Cmp(big.NewInt(1000000000000)) <= 0
}

// fracOf returns the valid fraction of a number that is in range.
func fracOf(r *big.Rat) api.Frac { return frac(int(r.Num().Int64()), int(r.Denom().Int64())) }

// floorOf returns a number that is not negative, rounded down.
func floorOf(r *big.Rat) int {
	return int(new(big.Int).Div(r.Num(), r.Denom()).Int64())
}

// asked is all that a function of a title can be asked.
type asked struct {
	l                                        []api.Deed
	loss, pack, owner, known, hour, deadline int
	party                                    int
	left                                     map[int]bool // the Ids of counting deeds that are taken as not there
}

func (a asked) counts(x api.Deed) bool {
	for _, v := range a.l {
		if v.Kind == 6 && v.Of == x.Id && v.Known <= a.known {
			return false
		}
	}
	return x.Kind != 6 && x.Known <= a.known && !a.left[x.Id]
}

// claims reports whether a party claims the package by an hour.
func (a asked) claims(party, hour int) bool {
	for _, x := range a.l {
		if x.Kind != 4 || x.Loss != a.loss || x.Pack != a.pack || x.From != party || x.Hour > hour || !a.counts(x) {
			continue
		}
		withdrawn := false
		for _, w := range a.l {
			withdrawn = withdrawn || w.Kind == 5 && w.Of == x.Id && w.Hour <= hour && a.counts(w)
		}
		if !withdrawn {
			return true
		}
	}
	return false
}

// moves are the counting deeds of the kinds 1 to 3 of the package, in the order in which they are done.
func (a asked) moves() []api.Deed {
	var out []api.Deed
	for hour := 0; hour <= a.lastHour(); hour++ {
		for _, x := range a.l {
			if x.Hour == hour && x.Kind >= 1 && x.Kind <= 3 && x.Loss == a.loss && x.Pack == a.pack && a.counts(x) {
				out = append(out, x)
			}
		}
	}
	return out
}

func (a asked) lastHour() int {
	last := 0
	for _, x := range a.l {
		last = max(last, x.Hour)
	}
	return last
}

// title returns the shares of all parties and of the crown, the idle deeds, and whether all is in range.
func (a asked) title() (share [41]*big.Rat, idle []int, is bool) {
	for party := range share {
		share[party] = new(big.Rat)
	}
	share[a.owner].SetInt64(1)
	over := a.deadline == -1 || a.deadline >= a.hour
	is = true
	crown := func() {
		for party := 1; party <= 40; party++ {
			if !a.claims(party, a.deadline) {
				share[0].Add(share[0], share[party])
				share[party].SetInt64(0)
				is = is && inRange(share[0])
			}
		}
		over = true
	}
	for _, x := range a.moves() {
		if x.Hour > a.hour {
			break
		}
		if !over && x.Hour > a.deadline {
			crown()
		}
		part := integer(1)
		if x.Kind != 3 {
			part = rat(x.Share)
		}
		goes := new(big.Rat).Mul(share[x.From], part)
		from := new(big.Rat).Sub(share[x.From], goes)
		to := new(big.Rat).Add(share[x.To], goes)
		if share[x.From].Sign() == 0 || !inRange(goes) || !inRange(from) || !inRange(to) {
			idle = append(idle, x.Id)
		} else {
			share[x.From], share[x.To] = from, to
		}
	}
	if !over {
		crown()
	}
	slices.Sort(idle)
	return share, idle, is
}

// titles returns what Titles should return.
func (a asked) titles() ([]api.Title, api.Errno) {
	share, _, is := a.title()
	if !is {
		return nil, api.ErrLimit
	}
	var out []api.Title
	for party, s := range share {
		if s.Sign() != 0 {
			out = append(out, api.Title{Party: party, Share: fracOf(s)})
		}
	}
	return out, api.OK
}

// lineage returns what Lineage should return.
func (a asked) lineage() ([]int, api.Errno) {
	all, _, is := a.title()
	if !is {
		return nil, api.ErrLimit
	}
	a.left = map[int]bool{}
	var ids []int
	for _, x := range slices.Backward(a.l) {
		at := x
		if x.Kind == 5 {
			at = a.l[slices.IndexFunc(a.l, func(y api.Deed) bool { return y.Id == x.Of })]
		}
		if !a.counts(x) || at.Loss != a.loss || at.Pack != a.pack {
			continue
		}
		a.left[x.Id] = true
		if share, _, is := a.title(); !is || share[a.party].Cmp(all[a.party]) != 0 {
			delete(a.left, x.Id)
			ids = append(ids, x.Id)
		}
	}
	slices.Sort(ids)
	return ids, api.OK
}

// reached returns what Reached should return for a deed behind the register.
func (a asked) reached(x api.Deed) ([]int, api.Errno) {
	longer := append(slices.Clone(a.l), x)
	at := x
	for at.Kind == 5 || at.Kind == 6 {
		at = longer[slices.IndexFunc(longer, func(y api.Deed) bool { return y.Id == at.Of })]
	}
	a.loss, a.pack, a.known = at.Loss, at.Pack, x.Known
	before, _, was := a.title()
	a.l = longer
	after, _, is := a.title()
	if !was || !is {
		return nil, api.ErrLimit
	}
	var out []int
	for party := range after {
		if before[party].Cmp(after[party]) != 0 {
			out = append(out, party)
		}
	}
	return out, api.OK
}

// randomShare returns a share that soon leads out of range, or one that does not.
func randomShare(r *rand.Rand) api.Frac {
	if r.IntN(3) == 0 {
		den := []int{499, 503, 997, 1009, 1013, 999983, 1000000}[r.IntN(7)]
		return []api.Frac{frac(1, den), frac(den-1, den)}[r.IntN(2)]
	}
	den := 2 + r.IntN(3)
	num := 1 + r.IntN(den-1)
	if r.IntN(20) == 0 {
		num = den
	}
	a, _ := claim.Norm(num, den)
	return a
}

// randomDeed returns a deed behind a register, which need not be possible behind it.
func randomDeed(r *rand.Rand, l []api.Deed) api.Deed {
	kinds := []uint8{1, 1, 1, 1, 1, 2, 2, 2, 2, 2, 2, 3, 4, 4, 4, 5, 6}
	x := api.Deed{Id: 1 + r.IntN(200), Hour: r.IntN(20), Kind: kinds[r.IntN(len(kinds))]}
	if len(l) > 0 {
		x.Known, x.Of = l[len(l)-1].Known, l[r.IntN(len(l))].Id
	}
	x.Known += r.IntN(2)
	if x.Kind == 6 {
		x.Hour = 0
	}
	if x.Kind >= 5 {
		return x
	}
	// The party 3 is the owner most often, and so has most to give.
	x.Of, x.Loss, x.Pack, x.From = 0, 1, 1+r.IntN(8)/7, 1+r.IntN(5)
	if r.IntN(2) == 0 {
		x.From = 3
	}
	if x.Kind == 4 {
		return x
	}
	for x.To = 1 + r.IntN(5); x.To == x.From; {
		x.To = 1 + r.IntN(5)
	}
	if x.Kind == 3 && r.IntN(3) == 0 {
		x.To = 0
	}
	if x.Kind != 3 {
		x.Share = randomShare(r)
	}
	return x
}

// randomRegister returns a register of so many deeds.
func randomRegister(r *rand.Rand, count int) []api.Deed {
	var l []api.Deed
	for len(l) < count {
		if m, e := claim.Append(l, randomDeed(r, l)); e == api.OK {
			l = m
		}
	}
	return l
}

// randomAsked returns a random register, and what can be asked of it.
func randomAsked(r *rand.Rand) asked {
	l := randomRegister(r, r.IntN(24))
	a := asked{l: l, loss: 1, pack: 1 + r.IntN(8)/7, owner: 1 + r.IntN(5), known: r.IntN(14), hour: r.IntN(24) - 2, deadline: r.IntN(24) - 1, party: r.IntN(6)}
	if r.IntN(5) > 0 {
		a.owner = 3
	}
	return a
}
