package purse_test

import (
	"math/rand/v2"
	"slices"
	"testing"

	"lagan/api"
	"lagan/purse"
)

// checkSettle checks what Settle returns for a book, and that it can be appended to it.
func checkSettle(t *testing.T, what string, l []api.Posting, d []api.Due, c []api.Cause, hour int, lines ...string) {
	t.Helper()
	m, e := purse.Settle(l, d, c, hour)
	same(t, what, m, postings(t, lines...))
	if e != api.OK {
		t.Errorf("%s: error %d", what, e)
	}
	if i, e := purse.Check(append(slices.Clone(l), m...)); i != 0 || e != api.OK {
		t.Errorf("%s: behind the book: %d, error %d", what, i, e)
	}
}

// P7.1, G8: the chapter's examples.
func TestSettleExamples(t *testing.T) {
	l := sample(t)
	d := []api.Due{due(10, 7, 300), due(10, 9, 500)}
	checkSettle(t, "a later cause", l, d, []api.Cause{cause(10, 9, 11)}, 20, "5 20 back 8 10 100 9 11", "6 20 pay 7 10 50 9 11", "7 20 pay 9 10 500 9 11")
	checkSettle(t, "an earlier cause", l, d, []api.Cause{cause(10, 4, 5)}, 20, "5 20 pay 7 10 50 4 5", "6 20 pay 9 10 500 4 5")
}

// P7.1, G8: what is clawed back, and what is paid.
func TestSettle(t *testing.T) {
	l := sample(t, "20 12 sale 30 50 3 4", "21 12 pay 8 30 20 3 4", "19 13 pay 0 30 20 5 13", "18 13 sale 20 9 3 4")
	nine := []api.Cause{cause(10, 9, 12), cause(20, 9, 12), cause(30, 9, 14)}
	checkSettle(t, "nothing due", l, nil, nine, 14,
		"22 14 back 7 10 250 9 12", "23 14 back 8 10 100 9 12", "24 14 back 0 30 20 9 14", "25 14 back 8 30 20 9 14")
	checkSettle(t, "nothing due, no causes", l, nil, nil, 14)
	checkSettle(t, "a cause that is not known yet", l, nil, []api.Cause{cause(10, 9, 14), cause(30, 9, 14)}, 13)
	checkSettle(t, "a cause that is known just now", l, nil, []api.Cause{cause(10, 9, 13), cause(30, 9, 13)}, 13,
		"22 13 back 7 10 250 9 13", "23 13 back 8 10 100 9 13", "24 13 back 8 30 20 9 13")
	checkSettle(t, "a cause that is no later than the last payment to one", l, nil, []api.Cause{cause(30, 9, 5)}, 14, "22 14 back 8 30 20 9 5")
	checkSettle(t, "a cause of the hour of the last payment", l, nil, []api.Cause{cause(30, 9, 4)}, 14)
	checkSettle(t, "what is due", l, []api.Due{due(10, 7, 250), due(10, 8, 100), due(30, 0, 20), due(30, 8, 20)}, nine, 14)
	checkSettle(t, "more due, not yet known", l, []api.Due{due(10, 7, 251)}, []api.Cause{cause(10, 9, 15)}, 14)
	checkSettle(t, "more due, without a cause", l, []api.Due{due(10, 7, 251)}, nine[1:2], 14)
	checkSettle(t, "paid by an early cause", l, []api.Due{due(20, 40, 4)}, []api.Cause{cause(20, 1, 0)}, 14, "22 14 pay 40 20 4 1 0")
	checkSettle(t, "paid in the order of the dues, as far as it is held", l, []api.Due{due(20, 0, 4), due(20, 3, 0), due(20, 7, 4), due(20, 8, 4), due(20, 9, 4)}, nine[1:2], 14,
		"22 14 pay 0 20 4 9 12", "23 14 pay 7 20 4 9 12", "24 14 pay 8 20 1 9 12")
	checkSettle(t, "paid with what came back", l, []api.Due{due(30, 0, 45)}, nine, 14,
		"22 14 back 7 10 250 9 12", "23 14 back 8 10 100 9 12", "24 14 back 8 30 20 9 14", "25 14 pay 0 30 25 9 14")
	checkSettle(t, "first all clawbacks", l, []api.Due{due(10, 7, 1000), due(10, 8, 100)}, nine, 14,
		"22 14 back 0 30 20 9 14", "23 14 back 8 30 20 9 14", "24 14 pay 7 10 650 9 12")
	checkSettle(t, "what cannot come back is not there to be paid", l, []api.Due{due(30, 7, 50)}, []api.Cause{cause(30, 9, 13)}, 14,
		"22 14 back 8 30 20 9 13", "23 14 pay 7 30 30 9 13")
	checkSettle(t, "what was not sold", l, []api.Due{due(11, 7, 50)}, []api.Cause{cause(11, 9, 13), cause(12, 9, 13)}, 14)
	checkSettle(t, "nothing at all", nil, nil, nil, 0)
	checkSettle(t, "an empty book", nil, []api.Due{due(10, 7, 5)}, []api.Cause{cause(10, 9, 0)}, 1000000)
	checkSettle(t, "a due of 0", l[:4], []api.Due{due(10, 7, 0), due(10, 8, 100)}, nine, 14, "5 14 back 7 10 250 9 12")
}

// P7.1, G8: the hour of the last posting is late enough.
func TestSettleTime(t *testing.T) {
	l := sample(t)
	c := []api.Cause{cause(10, 9, 6)}
	for hour, want := range map[int]api.Errno{-1: api.ErrArg, 0: api.ErrTime, 11: api.ErrTime, 12: api.OK, 1000000: api.OK, 1000001: api.ErrArg} {
		m, e := purse.Settle(l, nil, c, hour)
		if e != want || (e == api.OK) != (len(m) == 2) {
			t.Errorf("at %d: %v, error %d, want %d", hour, m, e, want)
		}
	}
}

// P7.1, G8: a book has no more than 400 postings, and Ids are at most 1000000.
func TestSettleLimit(t *testing.T) {
	l := many(398)
	slices.Reverse(l)
	for i := range l {
		l[i].Id = 1 + i
	}
	dues := func(parties int) (d []api.Due) {
		for party := range parties {
			d = append(d, due(l[0].Parcel, party, 1))
		}
		return d
	}
	c := []api.Cause{cause(l[0].Parcel, 1, 1)}
	for parties, want := range map[int]api.Errno{0: api.OK, 1: api.OK, 2: api.OK, 3: api.ErrLimit, 4: api.ErrLimit} {
		m, e := purse.Settle(l, dues(parties), c, 9)
		if e != want || e == api.OK && len(m) != parties || e != api.OK && len(m) > 0 {
			t.Errorf("%d more in the book: %d, error %d, want %d", parties, len(m), e, want)
		}
	}
	full := l
	for i := range 2 {
		full, _ = purse.Append(full, api.Posting{Id: 399 + i, Hour: 8, Kind: api.PostPay, Party: i, Parcel: l[0].Parcel, Amount: 1, Reason: 1})
	}
	if m, e := purse.Settle(full, dues(2), c, 9); len(full) != 400 || len(m) > 0 || e != api.OK {
		t.Errorf("a full book that is settled: %d, error %d", len(m), e)
	}
	for parties := range 2 {
		if m, e := purse.Settle(full, dues(parties), c, 9); len(m) > 0 || e != api.ErrLimit {
			t.Errorf("a full book, %d due: %d, error %d", parties, len(m), e)
		}
	}
	l = l[:3]
	l[1].Id = 999998
	for parties, want := range map[int]api.Errno{0: api.OK, 1: api.OK, 2: api.OK, 3: api.ErrLimit} {
		m, e := purse.Settle(l, dues(parties), c, 9)
		if e != want || e == api.OK && len(m) != parties || e != api.OK && len(m) > 0 {
			t.Errorf("%d more Ids: %d, error %d, want %d", parties, len(m), e, want)
		}
		for i, p := range m {
			if p.Id != 999999+i {
				t.Errorf("the Id %d of %d", p.Id, i)
			}
		}
	}
	l[1].Id = 1000000
	for parties, want := range map[int]api.Errno{0: api.OK, 1: api.ErrLimit} {
		if m, e := purse.Settle(l, dues(parties), c, 9); len(m) > 0 || e != want {
			t.Errorf("the last Id, %d due: %v, error %d, want %d", parties, m, e, want)
		}
	}
}

// P7.1, G8, and P7.4: many books, dues and causes.
func TestSettleModel(t *testing.T) {
	r := rand.New(rand.NewPCG(7, 6))
	backs, pays := 0, 0
	for range 20000 {
		l := randomBook(r, r.IntN(80))
		hour := lastHour(l) + r.IntN(3)
		d, c := randomDues(r, l), randomCauses(r, hour)
		m, e := purse.Settle(l, d, c, hour)
		if want := modelSettle(l, d, c, hour); !slices.Equal(m, want) || e != api.OK {
			t.Fatalf("Settle(%+v, %+v, %+v, %d): %+v, error %d, want %+v", l, d, c, hour, m, e, want)
		}
		longer := l
		for _, p := range m {
			if longer, e = purse.Append(longer, p); e != api.OK {
				t.Fatalf("%+v behind %+v: error %d", p, longer, e)
			}
			if p.Kind == api.PostBack {
				backs++
			} else {
				pays++
			}
		}
		if again, e := purse.Settle(longer, d, c, hour); len(again) > 0 || e != api.OK {
			t.Fatalf("settled again: %+v, error %d", again, e)
		}
		for parcel := 10; parcel < 15; parcel++ {
			for party := range someParties {
				before, after, should := modelHas(l, party, parcel), modelHas(longer, party, parcel), modelDue(d, party, parcel)
				if before > should && after > before || before <= should && after > should {
					t.Fatalf("%d has %d of %d behind settling, had %d, and %d is due", party, after, parcel, before, should)
				}
			}
		}
	}
	if backs < 1000 || pays < 1000 {
		t.Errorf("only %d clawbacks and %d payments", backs, pays)
	}
}

// duesWithin returns dues of parcels that were sold, together no more for each than it was sold for.
func duesWithin(r *rand.Rand, l []api.Posting) []api.Due {
	var d []api.Due
	for _, parcel := range purse.Parcels(l) {
		left := modelSold(l, parcel)
		for party := range someParties {
			if r.IntN(3) == 0 {
				continue
			}
			amount := r.IntN(left + 1)
			left -= amount
			d = append(d, due(parcel, party, amount))
		}
	}
	return d
}

// P7.5: with late causes everything is settled.
func TestSettled(t *testing.T) {
	r := rand.New(rand.NewPCG(7, 7))
	changed := 0
	for range 5000 {
		l := randomBook(r, r.IntN(80))
		d := duesWithin(r, l)
		hour := lastHour(l) + 1 + r.IntN(3)
		var c []api.Cause
		for _, parcel := range purse.Parcels(l) {
			late := -1
			for party := range someParties {
				late = max(late, modelKnown(l, party, parcel))
			}
			c = append(c, cause(parcel, 1+r.IntN(9), late+1+r.IntN(hour-late)))
		}
		if covered, e := purse.Covered(l, d); len(covered) > 0 || e != api.OK {
			t.Fatalf("Covered(%+v, %+v): %v, error %d", l, d, covered, e)
		}
		m, e := purse.Settle(l, d, c, hour)
		if len(m) > 0 {
			changed++
		}
		if is, g := purse.Settled(append(l, m...), d); !is || e != api.OK || g != api.OK {
			t.Fatalf("Settle(%+v, %+v, %+v, %d): %+v, error %d, error %d", l, d, c, hour, m, e, g)
		}
	}
	if changed < 1000 {
		t.Errorf("only %d times something to settle", changed)
	}
}
