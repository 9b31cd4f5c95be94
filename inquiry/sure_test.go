package inquiry_test

import (
	"math"
	"slices"
	"testing"

	"lagan/api"
	"lagan/claim"
	"lagan/find"
	"lagan/inquiry"
)

// checkSure holds what is sure, and what is perhaps had, against what it should be.
func checkSure(t testing.TB, b api.Books, known, parcel, hour int, sure, perhaps string) {
	t.Helper()
	if l, e := inquiry.Sure(b, known, parcel, hour); !slices.Equal(l, titles(t, sure)) || e != api.OK {
		t.Errorf("Sure of %d, known at %d, at %d: %v, error %d, want %s", parcel, known, hour, l, e, sure)
	}
	if l, e := inquiry.Perhaps(b, known, parcel, hour); !slices.Equal(l, titles(t, perhaps)) || e != api.OK {
		t.Errorf("Perhaps of %d, known at %d, at %d: %v, error %d, want %s", parcel, known, hour, l, e, perhaps)
	}
}

// P9.1, I5: the examples.
func TestSureExamples(t *testing.T) {
	b := booksB(t)
	checkSure(t, b, 20, 60, 20, "7 1/1", "7 1/1")
	checkSure(t, b, 20, 60, 8787, "7 1/1", "7 1/1")
	checkSure(t, b, 20, 60, 8788, "0 1/1", "0 1/1")
}

// What one find of several packages, and a parcel of several finds, can be.
var mixedLines = []string{
	"0 1 0 paper package 1 1 0 ab oil 40 60 1 7", "0 2 0 paper package 1 2 0 a? oil 5 90 1 8", "0 3 0 paper package 1 3 0 zz oil 5 90 1 9",
	"0 4 2 deed 0 paid 1 1 7 20 1 2", "0 5 2 deed 0 paid 1 2 8 20 1 3", "0 6 2 deed 0 paid 1 2 8 7 1 4",
	"1 1 5 report 3 found 1 ab oil 1 2 4", "1 2 6 report 4 found 0 zz oil 1 2 5", "1 3 6 report 5 found 0 qq oil 1 2 5", "1 4 7 report 7 joined 10 15",
}

// P9.1, I5: what is sure is the least of what some assignment gives, and what is perhaps the greatest, over all origins.
func TestSure(t *testing.T) {
	b, _, _ := inquiry.Told(seasonC(t), 2, recordsOf(t, mixedLines...))
	// The find 60 can be of the packages 1 (7: 1/2, 20: 1/2) and 2 (7: 1/6, 8: 1/2, 20: 1/3), the find 110 of 3 alone.
	checkSure(t, b, 6, 60, 20, "7 1/6, 20 1/3", "7 1/2, 8 1/2, 20 1/2")
	checkSure(t, b, 6, 110, 20, "9 1/1", "9 1/1")
	// A find that fits no slot is nobody's, and a year behind its Hour the crown's.
	checkSure(t, b, 6, 160, 20, "", "")
	checkSure(t, b, 6, 160, 5+8784, "", "")
	checkSure(t, b, 6, 160, 5+8785, "0 1/1", "0 1/1")
	checkSure(t, b, 6, 160, math.MaxInt, "0 1/1", "0 1/1")
	checkSure(t, b, 6, 160, math.MinInt, "", "")
	// Another find takes the package 1, so that the find 60 must be of 2.
	taken := entered(t, b, "1 5 8 report 8 found 0 ab oil 1 2 6", "0 7 9 paper package 1 2 0 aa oil 5 90 1 8", "0 8 10 paper package 1 4 0 ?b oil 5 90 1 10")
	checkSure(t, taken, 8, 60, 20, "7 1/6, 20 1/3", "7 1/2, 8 1/2, 20 1/2")
	checkSure(t, taken, 9, 60, 20, "", "")
	checkSure(t, taken, 10, 60, 20, "", "7 1/2, 10 1/1, 20 1/2")
	// The find 160 is joined to the find 110: they are both.
	joined := entered(t, b, "2 1 9 report 9 joined 60 110", "2 2 10 report 10 joined 70 160")
	checkSure(t, joined, 9, 70, 20, "", "7 1/2, 8 1/2, 9 1/1, 20 1/2")
	checkSure(t, joined, 10, 120, 20, "", "7 1/2, 8 1/2, 9 1/1, 20 1/2")
	checkSure(t, joined, 10, 120, 9000, "0 1/1", "0 1/1")
	// What it was divided into is of the same package.
	divided := entered(t, b, "2 1 9 report 9 divided 60 2")
	checkSure(t, divided, 9, 71, 20, "7 1/6, 20 1/3", "7 1/2, 8 1/2, 20 1/2")
	checkSure(t, divided, 9, 60, 20, "7 1/6, 20 1/3", "7 1/2, 8 1/2, 20 1/2")
}

// P9.1, I5: titles are those at the hour, with the deadline of each slot by itself.
func TestSureDeadlines(t *testing.T) {
	b := told(t, seasonC(t), "0 1 0 paper package 1 1 0 ab oil 40 60 1 7", "0 2 0 paper package 1 2 0 a? oil 5 90 1 7",
		"1 1 3 report 3 found 1 ac oil 1 2 4", "1 2 50 report 50 found 0 ab oil 1 2 4")
	// The find 60 (at 3) is of the package 2, the find 110 (at 50) of one of both, but an assignment gives it 1 alone.
	checkSure(t, b, 50, 110, 3+8784, "7 1/1", "7 1/1")
	checkSure(t, b, 50, 110, 3+8785, "7 1/1", "7 1/1")
	checkSure(t, b, 50, 60, 3+8785, "0 1/1", "0 1/1")
	checkSure(t, b, 50, 110, 50+8785, "0 1/1", "0 1/1")
	wide := entered(t, b, "0 3 60 paper package 1 2 0 a? oil 5 90 2 7")
	checkSure(t, wide, 60, 110, 3+8785, "", "0 1/1, 7 1/1")
}

// P9.1, I5: without an assignment nothing is sure, and nothing is perhaps, of any parcel.
func TestNothingSure(t *testing.T) {
	b := entered(t, booksB(t), "2 1 20 report 20 found 0 cd oil 1 2 4", "2 2 21 report 21 found 0 cd oil 1 2 4", "2 3 21 report 21 found 0 qq wool 1 2 4")
	checkSure(t, b, 20, 60, 20, "7 1/1", "7 1/1")
	for _, parcel := range []int{60, 110, 70, 120, 170} {
		checkSure(t, b, 21, parcel, 20, "", "")
		checkSure(t, b, 21, parcel, 20000, "", "")
	}
}

// P9.1, I5: nothing is sure if the sum of what would be is not in range up to some one; it is perhaps all the same.
func TestSureNotInRange(t *testing.T) {
	b := boundless(t)
	checkSure(t, b, 20, 60, 20, "", "7 504/1009, 9 506/1013, 10 1/2018, 11 1/2026")
	checkSure(t, b, 20, 60, 9, "7 1/1", "7 1/1")
	// With a claim the crown has less, and what it has is in range.
	claimed := entered(t, b, "2 4 21 deed 20 claim 1 1 9")
	checkSure(t, claimed, 21, 60, 8787, "", "7 504/1009, 9 506/1013, 10 1/2018, 11 1/2026")
	for _, ask := range []func(b api.Books, known, parcel, hour int) ([]api.Title, api.Errno){inquiry.Sure, inquiry.Perhaps} {
		if l, e := ask(b, 20, 60, 8788); len(l) > 0 || e != api.ErrLimit {
			t.Errorf("behind the deadline: %v, error %d", l, e)
		}
	}
}

// joined joins so many finds, from the parcel 10 on, to one parcel, which it returns.
func joined(b *api.Books, n int) int {
	next := 10
	last := 0
	for used := 0; used < n || last == 0; {
		parts := []int{}
		if last > 0 {
			parts = append(parts, last)
		}
		for len(parts) < 8 && used < n {
			parts = append(parts, next)
			next += 10
			used++
		}
		id := 100 + len(b.Reports)
		b.Reports = append(b.Reports, api.Report{Id: id, Known: 1000, Hour: 1000, Kind: api.ReportJoined, Parts: parts})
		last = 10 * id
	}
	return last
}

// P9.1, I5: the errors, and their order.
func TestSureErrors(t *testing.T) {
	calls := map[string]func(b api.Books, known, parcel, hour int) ([]api.Title, api.Errno){"Sure": inquiry.Sure, "Perhaps": inquiry.Perhaps}
	for name, call := range calls {
		for want, b := range wrongBooks(t) {
			if l, e := call(b, 20, 9, 9); len(l) > 0 || e != want {
				t.Errorf("%s of wrong books: %v, error %d, want %d", name, l, e, want)
			}
		}
		for _, parcel := range []int{0, -1, 10, 61, 100, math.MaxInt, math.MinInt} {
			for _, b := range []api.Books{booksB(t), manySlots(t, 201)} {
				if l, e := call(b, 20, parcel, 20); len(l) > 0 || e != api.ErrParcel {
					t.Errorf("%s of the parcel %d: %v, error %d", name, parcel, l, e)
				}
			}
		}
		if l, e := call(booksB(t), 4, 60, 20); len(l) > 0 || e != api.ErrParcel {
			t.Errorf("%s of a parcel that is not known: %v, error %d", name, l, e)
		}
		same := entered(t, booksB(t), "2 1 20 report 20 same 60 110")
		if l, e := call(same, 20, 110, 20); len(l) > 0 || e != api.ErrParcel {
			t.Errorf("%s of a parcel that is another one: %v, error %d", name, l, e)
		}
		for what, b := range map[string]api.Books{"201 slots": addFinds(manySlots(t, 201), 1), "61 finds": addFinds(manySlots(t, 1), 61)} {
			if l, e := call(b, 1000, 10, 9); len(l) > 0 || e != api.ErrLimit {
				t.Errorf("%s of %s: %v, error %d", name, what, l, e)
			}
		}
		// 20 finds with 50 slots each are 1000; another one that fits none is one more.
		b := addFinds(manySlots(t, 50), 20)
		parcel := joined(&b, 20)
		if l, e := call(b, 1000, parcel, 9); !slices.Equal(l, titles(t, "7 1/1")) || e != api.OK {
			t.Errorf("%s of 1000 lists: %v, error %d", name, l, e)
		}
		b = addFinds(manySlots(t, 50), 21)
		b.Reports[20].Goods = "wool"
		parcel = joined(&b, 21)
		if l, e := call(b, 1000, parcel, 9); len(l) > 0 || e != api.ErrLimit {
			t.Errorf("%s of 1001 lists: %v, error %d", name, l, e)
		}
		if l, e := call(b, 1000, 10, 9); !slices.Equal(l, titles(t, "7 1/1")) || e != api.OK {
			t.Errorf("%s of one of the finds: %v, error %d", name, l, e)
		}
		// The titles of all slots that the origins fit are asked for, also of those that no assignment gives them.
		wide := entered(t, boundless(t), "2 4 20 report 20 found 0 ?? oil 50 60 5", "2 5 20 paper package 1 3 0 ee oil 55 60 1 8")
		if l, e := call(wide, 20, 220, 8788); len(l) > 0 || e != api.ErrLimit {
			t.Errorf("%s of one that fits another slot, too: %v, error %d", name, l, e)
		}
		full := entered(t, wide, "2 6 20 paper package 1 1 0 ab oil 52 60 2 7")
		if l, e := call(full, 20, 220, 8788); len(l) > 0 || e != api.ErrLimit {
			t.Errorf("%s of one for which there is no piece: %v, error %d", name, l, e)
		}
	}
}

// P9.1, I5: the model on random records.
func TestSureModel(t *testing.T) {
	t.Parallel()
	seen, some := 0, 0
	for seed := range uint64(150) {
		c, r := randomTale(t, seed, 20+int(seed%50))
		b, _, _ := inquiry.Told(c, 3, r.book())
		if !isSmall(b, r.hour) {
			continue
		}
		for _, known := range []int{r.hour, r.IntN(r.hour + 1)} {
			for _, parcel := range append(r.parcels, 7) {
				for _, hour := range []int{r.hour, r.IntN(r.hour + 1), r.hour + 8700} {
					sure, perhaps, want := modelSure(b, known, parcel, hour)
					l, e := inquiry.Sure(b, known, parcel, hour)
					m, f := inquiry.Perhaps(b, known, parcel, hour)
					if !slices.Equal(l, sure) || e != want || !slices.Equal(m, perhaps) || f != want {
						t.Errorf("seed %d, known at %d, %d at %d: %v, %v, errors %d, %d, want %v, %v, %d", seed, known, parcel, hour, l, m, e, f, sure, perhaps, want)
					}
					seen++
					if len(l) > 0 && len(l) != len(m) {
						some++
					}
				}
			}
		}
	}
	if seen < 2000 || some < 20 {
		t.Errorf("only %d asked, %d of them between", seen, some)
	}
}

// P9.4: what is sure adds up to at most 1, each part is at most that of perhaps, and whatever assignment holds, each
// origin's titles give a party at least this.
func TestSureHolds(t *testing.T) {
	held := 0
	for seed := range uint64(120) {
		c, r := randomTale(t, 1000+seed, 20+int(seed%50))
		b, _, _ := inquiry.Told(c, 3, r.book())
		known, hour := r.hour, r.hour
		if !isSmall(b, known) {
			continue
		}
		board := boardOf(t, b, known)
		given := map[[2]int]bool{} // finds and slots
		for _, l := range modelAssignments(board) {
			for i, slot := range l {
				given[[2]int{board.Finds[i], slot}] = slot >= 0
			}
		}
		for _, parcel := range r.parcels {
			sure, e := inquiry.Sure(b, known, parcel, hour)
			if e != api.OK || len(sure) == 0 {
				continue
			}
			perhaps, _ := inquiry.Perhaps(b, known, parcel, hour)
			origins, _ := find.Origins(b.Reports, known, parcel)
			sum := api.Frac{Num: 0, Den: 1}
			for _, x := range sure {
				sum, _ = claim.Add(sum, x.Share)
				if claim.Compare(x.Share, modelShare(perhaps, x.Party)) > 0 {
					t.Errorf("seed %d, %d: %v, perhaps %v", seed, parcel, sure, perhaps)
				}
			}
			if claim.Compare(sum, api.Frac{Num: 1, Den: 1}) > 0 {
				t.Errorf("seed %d, %d: %v", seed, parcel, sure)
			}
			for _, o := range origins {
				for i, slot := range board.Slots {
					if !given[[2]int{o, i}] {
						continue
					}
					l, _ := inquiry.TitlesOf(b, known, slot.Loss, slot.Pack, hour)
					for _, x := range sure {
						if claim.Compare(x.Share, modelShare(l, x.Party)) > 0 {
							t.Errorf("seed %d, %d: %v, but %v of the slot %+v", seed, parcel, sure, l, slot)
						}
					}
					held++
				}
			}
		}
	}
	if held < 200 {
		t.Errorf("only %d held", held)
	}
}
