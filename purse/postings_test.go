package purse_test

import (
	"math"
	"math/rand/v2"
	"slices"
	"testing"

	"lagan/api"
	"lagan/purse"
)

var (
	aSale = api.Posting{Id: 9, Hour: 8, Kind: api.PostSale, Parcel: 60, Amount: 5, Reason: 4, Known: 3}
	aPay  = api.Posting{Id: 9, Hour: 8, Kind: api.PostPay, Party: 7, Parcel: 60, Amount: 5, Reason: 4, Known: 3}
	aBack = api.Posting{Id: 9, Hour: 8, Kind: api.PostBack, Party: 7, Parcel: 60, Amount: 5, Reason: 4, Known: 3}
)

// P7.1, G1: each number of a posting of each kind, at its ends and beyond them.
func TestCheckPosting(t *testing.T) {
	check := func(p api.Posting, want api.Errno) {
		t.Helper()
		if e := purse.CheckPosting(p); e != want {
			t.Errorf("%+v: error %d, want %d", p, e, want)
		}
	}
	for _, f := range []struct {
		of        func(p *api.Posting) *int
		low, high int
	}{
		{func(p *api.Posting) *int { return &p.Id }, 1, 1000000},
		{func(p *api.Posting) *int { return &p.Hour }, 3, 1000000},
		{func(p *api.Posting) *int { return &p.Parcel }, 10, 10000007},
		{func(p *api.Posting) *int { return &p.Amount }, 1, 1000000000},
		{func(p *api.Posting) *int { return &p.Reason }, 1, 1000000},
		{func(p *api.Posting) *int { return &p.Known }, 0, 8},
		{func(p *api.Posting) *int { return &p.Party }, 0, 40},
	} {
		for _, p := range []api.Posting{aSale, aPay, aBack} {
			check(p, api.OK)
			high := f.high
			if f.of(&p) == &p.Party && p.Kind == api.PostSale {
				high = 0
			}
			for n, want := range map[int]api.Errno{
				f.low: api.OK, high: api.OK, f.low - 1: api.ErrArg, high + 1: api.ErrArg, math.MinInt: api.ErrArg, math.MaxInt: api.ErrArg,
			} {
				q := p
				*f.of(&q) = n
				check(q, want)
			}
		}
	}
	for _, kind := range []uint8{0, 4, 5, 255} {
		for _, p := range []api.Posting{aSale, aPay, aBack} {
			p.Kind = kind
			check(p, api.ErrArg)
		}
	}
	check(api.Posting{}, api.ErrArg)
	check(api.Posting{Id: 1, Kind: api.PostSale, Parcel: 10, Amount: 1, Reason: 1}, api.OK)
	check(api.Posting{Id: 1000000, Hour: 1000000, Kind: api.PostBack, Party: 40, Parcel: 10000007, Amount: 1000000000, Reason: 1000000, Known: 1000000}, api.OK)
	check(api.Posting{Id: 1, Hour: 1000001, Kind: api.PostPay, Parcel: 10, Amount: 1, Reason: 1, Known: 1000000}, api.ErrArg)
}

// spoilt returns a posting that is well-formed no more.
func spoilt(p api.Posting) api.Posting {
	p.Reason = 0
	return p
}

// P7.1, G1, and P7.3: each error of Check and of Append, and their order.
func TestCheck(t *testing.T) {
	l := sample(t, "20 12 sale 30 50 3 4", "21 12 pay 7 10 30 9 12", "22 12 pay 0 30 50 3 4")
	line := func(s string) api.Posting { return postings(t, s)[0] }
	for _, c := range []struct {
		what string
		p    api.Posting
		want api.Errno
	}{
		{"nothing", api.Posting{}, api.ErrArg},
		{"not formed, an Id twice, early", spoilt(line("1 5 sale 10 1 3 4")), api.ErrArg},
		{"an Id twice", line("3 12 pay 7 10 1 3 4"), api.ErrTwice},
		{"an Id twice, early, not sold", line("20 11 pay 7 11 1 3 4"), api.ErrTwice},
		{"early", line("5 11 pay 7 10 1 3 4"), api.ErrTime},
		{"early, sold before", line("5 11 sale 10 1 3 4"), api.ErrTime},
		{"early, not sold", line("5 11 pay 7 20 1 3 4"), api.ErrTime},
		{"early, too much", line("5 11 pay 7 10 621 3 4"), api.ErrTime},
		{"sold before", line("5 12 sale 10 1 3 4"), api.ErrTwice},
		{"sold before, and paid", line("5 12 sale 30 1 3 4"), api.ErrTwice},
		{"a sale", line("5 12 sale 11 1000000000 3 4"), api.OK},
		{"a payment for what was not sold", line("5 12 pay 7 20 1 3 4"), api.ErrNone},
		{"a clawback for what was not sold", line("5 12 back 7 20 1 3 12"), api.ErrNone},
		{"all that is held", line("5 12 pay 7 10 620 3 4"), api.OK},
		{"more than is held", line("5 12 pay 7 10 621 3 4"), api.ErrPoor},
		{"a payment where nothing is held", line("5 12 pay 7 30 1 3 4"), api.ErrPoor},
		{"a payment to another one", line("5 12 pay 40 10 1 3 0"), api.OK},
		{"a payment to the crown", line("5 12 pay 0 10 1 3 0"), api.OK},
		{"a clawback from one who has nothing", line("5 12 back 9 10 1 3 12"), api.ErrPoor},
		{"a clawback for another parcel", line("5 13 back 7 30 1 3 13"), api.ErrPoor},
		{"all that a party has", line("5 13 back 7 10 280 3 13"), api.OK},
		{"more than a party has", line("5 13 back 7 10 281 3 13"), api.ErrPoor},
		{"more than a party has, without a later reason", line("5 13 back 7 10 281 3 12"), api.ErrPoor},
		{"more than a party has, but not than is held", line("5 13 back 8 10 101 9 11"), api.ErrPoor},
		{"more than is held, but not than the crown has", line("5 13 back 0 30 50 9 5"), api.OK},
		{"the reason of the last payment", line("5 13 back 7 10 1 9 12"), api.ErrReason},
		{"a reason between the payments", line("5 13 back 7 10 1 9 11"), api.ErrReason},
		{"a later reason", line("5 13 back 7 10 1 9 13"), api.OK},
		{"a reason of its hour", line("5 1000000 back 7 10 1 9 1000000"), api.OK},
		{"a reason that is late for one, but not for another one", line("5 12 back 8 10 1 9 6"), api.OK},
		{"the reason of the payment to the crown", line("5 12 back 0 30 1 9 4"), api.ErrReason},
	} {
		longer := append(slices.Clone(l), c.p)
		i, e := purse.Check(longer)
		if e != c.want || e != api.OK && i != len(l) || e == api.OK && i != 0 {
			t.Errorf("%s: checked: %d, error %d, want %d", c.what, i, e, c.want)
		}
		m, e := purse.Append(l, c.p)
		if e != c.want {
			t.Errorf("%s: appended: error %d, want %d", c.what, e, c.want)
		}
		if e == api.OK {
			same(t, c.what, m, longer)
			continue
		}
		if len(m) > 0 {
			t.Errorf("%s: appended: %v", c.what, m)
		}
		if m, g := purse.Append(longer, api.Posting{}); len(m) > 0 || g != c.want {
			t.Errorf("%s: appended behind it: %v, error %d, want %d", c.what, m, g, c.want)
		}
		if i, g := purse.Check(append(longer, api.Posting{})); i != len(l) || g != c.want {
			t.Errorf("%s: checked with more: %d, error %d, want %d", c.what, i, g, c.want)
		}
	}
	for _, none := range [][]api.Posting{nil, {}} {
		if i, e := purse.Check(none); i != 0 || e != api.OK {
			t.Errorf("Check of nothing: %d, error %d", i, e)
		}
		m, e := purse.Append(none, aSale)
		same(t, "Append to nothing", m, []api.Posting{aSale})
		if e != api.OK {
			t.Errorf("Append to nothing: error %d", e)
		}
	}
}

// P7.1, G1: the chapter's examples of Append.
func TestAppendExamples(t *testing.T) {
	l := sample(t)
	for line, want := range map[string]api.Errno{
		"5 12 back 8 10 50 4 5": api.ErrReason, "5 12 back 8 10 101 9 11": api.ErrPoor, "5 12 pay 9 10 651 9 11": api.ErrPoor,
		"5 12 back 8 10 100 9 11": api.OK, "5 12 back 8 10 50 9 6": api.OK, "5 12 pay 9 10 650 9 11": api.OK,
	} {
		if m, e := purse.Append(l, postings(t, line)[0]); e != want || (e == api.OK) != (len(m) == 5) {
			t.Errorf("%q: %v, error %d, want %d", line, m, e, want)
		}
	}
}

// many returns so many postings, which are a book if they are not too many.
func many(count int) []api.Posting {
	var l []api.Posting
	for i := range count {
		p := aSale
		p.Id, p.Parcel, p.Amount = 1000-i, 5000-i, 1000000000
		l = append(l, p)
	}
	return l
}

// P7.1, G1: 400 postings are a book, and 401 are none.
func TestCheckLimit(t *testing.T) {
	all := many(450)
	if i, e := purse.Check(all[:400]); i != 0 || e != api.OK {
		t.Errorf("400: %d, error %d", i, e)
	}
	if i, e := purse.Check(all); i != 400 || e != api.ErrLimit {
		t.Errorf("450: %d, error %d", i, e)
	}
	if l, e := purse.Append(all[:399], all[399]); len(l) != 400 || e != api.OK {
		t.Errorf("appended to 399: %d, error %d", len(l), e)
	}
	for _, p := range []api.Posting{all[400], {}, all[0]} {
		if l, e := purse.Append(all[:400], p); len(l) > 0 || e != api.ErrLimit {
			t.Errorf("%+v appended to 400: %d, error %d", p, len(l), e)
		}
	}
	all[399] = all[0]
	if i, e := purse.Check(all); i != 399 || e != api.ErrTwice {
		t.Errorf("450, with an Id twice: %d, error %d", i, e)
	}
	// A refused posting in front is the first one, whatever is behind it.
	if i, e := purse.Check(make([]api.Posting, 500)); i != 0 || e != api.ErrArg {
		t.Errorf("500 empty ones: %d, error %d", i, e)
	}
}

// P7.1, G1: many lists, which are books or not.
func TestCheckModel(t *testing.T) {
	r := rand.New(rand.NewPCG(7, 1))
	seen := map[api.Errno]int{}
	for range 20000 {
		l := randomBook(r, r.IntN(60))
		for range 1 + r.IntN(3) {
			l = append(l, randomPosting(r, l))
		}
		i, e := purse.Check(l)
		if j, g := modelCheck(l); i != j || e != g {
			t.Fatalf("Check(%+v): %d, error %d, want %d, error %d", l, i, e, j, g)
		}
		seen[e]++
		last := len(l) - 1
		m, g := purse.Append(l[:last], l[last])
		if g != e || e == api.OK && !slices.Equal(m, l) || e != api.OK && len(m) > 0 {
			t.Fatalf("Append(%+v): %+v, error %d, want %d", l, m, g, e)
		}
	}
	for _, e := range []api.Errno{api.OK, api.ErrArg, api.ErrTwice, api.ErrTime, api.ErrNone, api.ErrPoor, api.ErrReason} {
		if seen[e] < 100 {
			t.Errorf("the error %d was there %d times only", e, seen[e])
		}
	}
}

// P7.1, G2: postings by an hour, and for a parcel.
func TestUptoOfParcel(t *testing.T) {
	l := sample(t, "5 12 sale 30 50 3 4", "6 13 pay 8 10 1 4 5")
	for hour, want := range map[int]int{math.MinInt: 0, -1: 0, 4: 0, 5: 1, 8: 2, 9: 3, 11: 3, 12: 5, 13: 6, 1000001: 6, math.MaxInt: 6} {
		same(t, "Upto", purse.Upto(l, hour), l[:want])
	}
	same(t, "OfParcel 10", purse.OfParcel(l, 10), append(slices.Clone(l[:4]), l[5]))
	same(t, "OfParcel 30", purse.OfParcel(l, 30), l[4:5])
	for _, parcel := range []int{0, 7, 11, 20, -1, math.MinInt, math.MaxInt} {
		same(t, "OfParcel of nothing", purse.OfParcel(l, parcel), nil)
	}
	same(t, "Upto of nothing", purse.Upto(nil, 9), nil)
	same(t, "OfParcel of nothing", purse.OfParcel(nil, 10), nil)
	l[3].Known = 5
	same(t, "Upto of no book", purse.Upto(l, 9), nil)
	same(t, "OfParcel of no book", purse.OfParcel(l, 30), nil)
}

// P7.7: Upto of a book is a book, and each beginning of a book is one.
func TestBeginnings(t *testing.T) {
	r := rand.New(rand.NewPCG(7, 2))
	for range 1000 {
		l := randomBook(r, 80)
		for i := range len(l) + 1 {
			if at, e := purse.Check(l[:i]); at != 0 || e != api.OK {
				t.Fatalf("the first %d of %+v: %d, error %d", i, l, at, e)
			}
		}
		for hour := -1; hour <= lastHour(l)+1; hour++ {
			l := slices.Clone(l)
			m := purse.Upto(l, hour)
			if at, e := purse.Check(m); at != 0 || e != api.OK {
				t.Fatalf("Upto(%+v, %d): %d, error %d", l, hour, at, e)
			}
			same(t, "Upto", m, slices.DeleteFunc(l, func(p api.Posting) bool { return p.Hour > hour }))
		}
	}
}
