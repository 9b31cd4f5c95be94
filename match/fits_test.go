package match_test

import (
	"math"
	"math/rand/v2"
	"slices"
	"strconv"
	"testing"

	"lagan/api"
	"lagan/cargo"
	"lagan/drift"
	"lagan/find"
	"lagan/match"
)

// checkWhy holds Why for a find and a package of the loss 1.
func checkWhy(t *testing.T, what string, x records, known, parcel, pack int, want uint8) {
	t.Helper()
	if why, e := x.why(known, parcel, 1, pack); why != want || e != api.OK {
		t.Errorf("%s: Why of %d and %d at %d: %d, error %d, want %d", what, parcel, pack, known, why, e, want)
	}
}

// checkNone holds Why for a find or a package that there is not.
func checkNone(t *testing.T, what string, x records, known, parcel, loss, pack int) {
	t.Helper()
	if why, e := x.why(known, parcel, loss, pack); why != 0 || e != api.ErrNone {
		t.Errorf("%s: Why of %d and %d, %d at %d: %d, error %d", what, parcel, loss, pack, known, why, e)
	}
}

// P4.1, D2: the example. The winds are those as known at 0 alone.
func TestFitExamples(t *testing.T) {
	x := sample(t)
	x.winds = x.winds[:1]
	for _, c := range []struct {
		parcel, pack int
		want         uint8
	}{
		{10, 1, api.FitYes}, {10, 2, api.WhyMark}, {20, 2, api.FitYes}, {30, 2, api.WhyDrift}, {40, 2, api.WhyWeight},
		{20, 1, api.WhyMark}, {30, 1, api.WhyMark}, {40, 1, api.WhyMark},
	} {
		checkWhy(t, "example", x, 5, c.parcel, c.pack, c.want)
	}
	b, e := x.build(5)
	fine(t, "Build", e)
	sameBoard(t, "Build", b, api.Board{
		Finds: []int{10, 20, 30, 40},
		Slots: []api.Slot{{Loss: 1, Pack: 1, Pieces: 1}, {Loss: 1, Pack: 2, Pieces: 1}},
		Fits:  [][]int{{0}, {1}, nil, nil},
	})
	b, e = x.build(4)
	fine(t, "Build", e)
	sameBoard(t, "Build before all finds", b, api.Board{Slots: []api.Slot{{Loss: 1, Pack: 1, Pieces: 1}, {Loss: 1, Pack: 2, Pieces: 1}}})
	b, e = x.build(-1)
	fine(t, "Build", e)
	sameBoard(t, "Build before all", b, api.Board{})
	checkNone(t, "too early", x, 4, 10, 1, 1)
	checkNone(t, "too early", x, math.MinInt, 10, 1, 1)
	checkWhy(t, "late", x, math.MaxInt, 10, 1, api.FitYes)
}

// P4.1, D2: of several reasons the first one counts.
func TestFirstReason(t *testing.T) {
	base := records{c: api.Season{Sea: seaS(t), Losses: []api.Loss{lossX()}}}.with(t, windsL()...).with(t, "1 0 package 1 1 0 abc wool 50 90 1 7")
	good := [4]string{"wool", "a?c", "90 95", "2"}
	bad := [4]string{"oil", "abd", "91 95", "4"}
	for wrong := range 16 {
		words, want := good, api.FitYes
		for i := 3; i >= 0; i-- {
			if wrong>>i&1 == 1 {
				words[i] = bad[i]
				want = uint8(i) + api.WhyGoods
			}
		}
		x := base.with(t, "1 4 4 found "+words[3]+" "+words[1]+" "+words[0]+" "+words[2]+" 3")
		checkWhy(t, words[0]+" "+words[1]+" "+words[2]+" "+words[3], x, 4, 10, 1, want)
	}
}

// P4.1, D2: a find is a parcel that was found, as known at the hour, and the same as no other one before it.
func TestWhichFinds(t *testing.T) {
	x := sample(t).with(t,
		"5 6 4 divided 20 2",                 // makes the parcels 50 and 51
		"6 7 4 found 2 cd wool 60 60 3",      // the parcel 60
		"7 8 4 same 60 30",                   // the parcel 30 is none any more
		"8 9 4 hidden 60 3",                  // what is hidden is a find all the same
		"9 9 void 4",                         // the parcel 40 is none any more
		"10 10 9 joined 10 50",               // makes the parcel 100; 10 is a find all the same
		"11 10 9 found 2 ?? wool 60 60 3",    // the parcel 110
		"1000000 11 4 found 2 cd wool 1 1 3", // the parcel 10000000
	)
	for known, want := range map[int][]int{5: {10, 20, 30, 40}, 7: {10, 20, 30, 40, 60}, 8: {10, 20, 40, 60}, 9: {10, 20, 60},
		10: {10, 20, 60, 110}, 11: {10, 20, 60, 110, 10000000}} {
		b, e := x.build(known)
		fine(t, "Build", e)
		same(t, "Build: finds", b.Finds, want)
		for _, parcel := range []int{10, 11, 20, 30, 40, 50, 51, 60, 100, 110, 10000000, 0, -10, math.MaxInt} {
			if slices.Contains(want, parcel) {
				_, e := x.why(known, parcel, 1, 1)
				fine(t, "Why", e)
			} else {
				checkNone(t, "no find", x, known, parcel, 1, 1)
			}
		}
	}
}

// P4.1, D2: the slots are the packages of the losses of the season in which nothing is.
func TestWhichSlots(t *testing.T) {
	x := sample(t)
	x.papers = nil
	second, third := lossX(), lossX()
	second.Id, third.Id = 3, 7
	x.c.Losses = append(x.c.Losses, second, third)
	x = x.with(t,
		"1 0 package 1 5 0 ab wool 100 200 20 7",
		"2 0 package 1 2 0 cd wool 100 200 4 7",
		"3 0 package 1 9 2 ef wool 10 20 3 7", // in 2
		"4 0 package 2 1 0 gh wool 10 20 1 7", // of no loss of the season
		"5 0 package 7 1 0 ij wool 10 20 1 7", // of the last one
		"6 0 package 3 8 0 kl wool 10 20 2 7", // a total says that something is in it
		"7 0 package 3 4 0 mn wool 10 20 2 7", // a total says that nothing is in it
		"8 0 total 3 8 1 1 20",
		"9 0 total 3 4 0 0 0",
		"10 6 package 1 9 0 ef wool 10 20 6 7", // later: directly in the ship, with more pieces
		"11 7 package 3 9 5 op wool 10 20 1 7", // the manifest is no tree any more
	)
	for known, want := range map[int][]api.Slot{
		5: {{Loss: 1, Pack: 5, Pieces: 20}, {Loss: 1, Pack: 9, Pieces: 3}, {Loss: 3, Pack: 4, Pieces: 2}, {Loss: 7, Pack: 1, Pieces: 1}},
		6: {{Loss: 1, Pack: 2, Pieces: 4}, {Loss: 1, Pack: 5, Pieces: 20}, {Loss: 1, Pack: 9, Pieces: 6}, {Loss: 3, Pack: 4, Pieces: 2}, {Loss: 7, Pack: 1, Pieces: 1}},
		7: {{Loss: 1, Pack: 2, Pieces: 4}, {Loss: 1, Pack: 5, Pieces: 20}, {Loss: 1, Pack: 9, Pieces: 6}, {Loss: 3, Pack: 4, Pieces: 2}, {Loss: 3, Pack: 9, Pieces: 1}, {Loss: 7, Pack: 1, Pieces: 1}},
	} {
		b, e := x.build(known)
		fine(t, "Build", e)
		same(t, "Build: slots", b.Slots, want)
		for loss := -1; loss <= 21; loss++ {
			for _, pack := range []int{-1, 0, 1, 2, 4, 5, 8, 9, 200, 201, math.MaxInt} {
				if slices.ContainsFunc(want, func(s api.Slot) bool { return s.Loss == loss && s.Pack == pack }) {
					_, e := x.why(known, 10, loss, pack)
					fine(t, "Why", e)
				} else {
					checkNone(t, "no slot", x, known, 10, loss, pack)
				}
			}
		}
	}
}

// P4.1, D2: the greatest weight of a package is its high end, and that of its paper where it has none.
func TestWeightOfPackage(t *testing.T) {
	base := sample(t)
	base.papers, base.reports = nil, nil
	base = base.with(t, "1 0 package 1 1 0 ? wool 10 200 1 7", "2 0 package 1 2 0 ? iron 30 40 1 7")
	for i, weight := range []int{70, 71, 200, 201} {
		base = base.with(t, strconv.Itoa(i+1)+" 4 4 found 2 ? wool "+strconv.Itoa(weight)+" 900 3")
	}
	for _, c := range []struct {
		what string
		more []string
		most int
	}{
		{"by its paper", nil, 200},
		{"by the total of the ship", []string{"3 0 total 1 0 2 100 100"}, 70},
		{"by a total of a missing one too", []string{"3 0 total 1 0 3 100 101"}, 70},
		{"in doubt", []string{"3 0 total 1 0 2 100 100", "4 4 package 1 2 0 ? iron 100 400 1 7"}, 200},
		{"no tree", []string{"3 0 total 1 0 2 100 100", "4 4 package 1 2 9 ? iron 30 40 1 7"}, 200},
	} {
		x := base.with(t, c.more...)
		for i, weight := range []int{70, 71, 200, 201} {
			want := api.FitYes
			if weight > c.most {
				want = api.WhyWeight
			}
			checkWhy(t, c.what+", "+strconv.Itoa(weight), x, 4, 10*i+10, 1, want)
		}
	}
}

// P4.1, D2: the least weight of a find is its low end, and what is said of it if the reports contradict each other.
func TestWeightOfFind(t *testing.T) {
	base := sample(t)
	base.papers, base.reports = nil, nil
	base = base.with(t, "1 0 package 1 1 0 ? wool 1 50 1 7", "2 0 package 1 2 0 ? wool 1 59 1 7", "3 0 package 1 3 0 ? wool 1 60 1 7",
		"1 4 4 found 2 ? wool 10 90 3", "2 5 4 divided 10 2")
	for _, c := range []struct {
		what  string
		more  []string
		least int
	}{
		{"as it was found", nil, 10},
		{"by a part", []string{"3 6 4 weighed 20 50 60"}, 51},
		{"by both parts", []string{"3 6 4 weighed 20 50 60", "4 6 4 weighed 21 10 20"}, 60},
		{"by heavier parts", []string{"3 6 4 weighed 20 50 60", "4 6 4 weighed 21 11 20"}, 61},
		{"in contradiction", []string{"3 6 4 weighed 20 91 99"}, 10},
	} {
		x := base.with(t, c.more...)
		for pack, most := range map[int]int{1: 50, 2: 59, 3: 60} {
			want := api.FitYes
			if c.least > most {
				want = api.WhyWeight
			}
			checkWhy(t, c.what, x, 6, 10, pack, want)
		}
	}
	// Of another find the reports contradict each other: then what is said of this one counts, and not what follows.
	x := base.with(t, "3 6 4 weighed 20 50 60", "4 6 4 found 3 ? oil 5 9 3", "5 6 4 weighed 40 10 12")
	for pack := 1; pack <= 3; pack++ {
		checkWhy(t, "in contradiction elsewhere", x, 6, 10, pack, api.FitYes)
	}
	same := base.with(t, "3 6 4 found 2 ? wool 20 90 3", "4 7 4 found 2 ? wool 60 80 3", "5 8 4 same 30 40")
	checkWhy(t, "before it is the same", same, 7, 30, 2, api.FitYes)
	checkWhy(t, "the same as a heavier one", same, 8, 30, 2, api.WhyWeight)
	checkWhy(t, "the same as one as heavy", same, 8, 30, 3, api.FitYes)
	torn := same.with(t, "6 9 4 weighed 30 1 50")
	checkWhy(t, "no weight is left", torn, 9, 30, 2, api.WhyWeight)
	checkWhy(t, "no weight is left", torn, 9, 30, 3, api.FitYes)
}

// landingOf returns records with one find at a cell and an hour of goods, and one package of a loss from an hour on.
func landingOf(t *testing.T, first, last, cell, hour int, goods string) records {
	loss := lossX()
	loss.Hours = api.Range{Low: first, High: last}
	c := api.Season{Sea: seaS(t), Losses: []api.Loss{loss}, Floats: []api.Float{{Goods: "cork", Float: 2}, {Goods: "iron", Float: 1}}}
	return records{c: c}.with(t, "1 0 wind 0 1000000 0 0 1 1", "1 0 package 1 1 0 ? "+goods+" 1 9 1 7",
		"1 1000000 "+strconv.Itoa(hour)+" found "+strconv.Itoa(cell)+" ? "+goods+" 1 9 3")
}

// P4.1, D2: where and when a find can be of a package. The wind blows straight ashore, and the tides are those of S.
func TestWhyDrift(t *testing.T) {
	for _, c := range []struct {
		what                    string
		first, last, cell, hour int
		goods                   string
		want                    uint8
	}{
		{"before the loss", 4, 4, 1, 3, "iron", api.WhyDrift},
		{"long before the loss", 900, 900, 1, 0, "iron", api.WhyDrift},
		{"at the hour of the loss", 4, 4, 1, 4, "iron", api.WhyDrift},
		{"an hour behind it", 4, 4, 2, 5, "iron", api.WhyDrift},
		{"two hours behind it", 4, 4, 2, 6, "iron", api.FitYes},
		{"two hours behind it, elsewhere", 4, 4, 1, 6, "iron", api.WhyDrift},
		{"goods that are not listed float deep", 4, 4, 2, 5, "wool", api.WhyDrift},
		{"goods that are not listed, two hours", 4, 4, 2, 6, "wool", api.FitYes},
		{"goods that float high", 4, 4, 2, 5, "cork", api.FitYes},
		{"goods that float high, elsewhere", 4, 4, 3, 5, "cork", api.WhyDrift},
		{"from the last one of several hours", 4, 5, 0, 7, "iron", api.FitYes},
		{"from an hour that is none of them", 4, 4, 0, 7, "iron", api.WhyDrift},
		{"200 hours behind", 4, 4, 4, 204, "iron", api.WhyDrift},
		{"201 hours behind", 4, 4, 4, 205, "iron", api.FitYes},
		{"200 hours behind the first one", 4, 40, 4, 204, "iron", api.WhyDrift},
		{"201 hours behind the first one, not the last one", 4, 40, 4, 205, "iron", api.FitYes},
		{"long behind", 4, 4, 0, 999999, "cork", api.FitYes},
		{"no such cell", 4, 4, 5, 6, "iron", api.WhyDrift},
		{"no such cell, long behind", 4, 4, 5, 999999, "iron", api.WhyDrift},
		{"the greatest cell, long behind", 4, 4, 39, 999999, "iron", api.WhyDrift},
		{"the last loss", 1000000, 1000000, 1, 1000000, "iron", api.WhyDrift},
		{"before the last loss", 1000000, 1000000, 1, 999999, "iron", api.WhyDrift},
	} {
		x := landingOf(t, c.first, c.last, c.cell, c.hour, c.goods)
		if want, e := x.modelWhy(1000000, 10, 1, 1); want != c.want || e != api.OK {
			t.Errorf("%s: the model says %d, error %d", c.what, want, e)
		}
		checkWhy(t, c.what, x, 1000000, 10, 1, c.want)
	}
}

// P4.1, P4.7: on one board, packages of two losses and with goods that float in two ways, found at the same hours.
func TestDriftOfMany(t *testing.T) {
	second := lossX()
	second.Id, second.Hours = 2, api.Range{Low: 1, High: 1}
	c := api.Season{Sea: seaS(t), Losses: []api.Loss{lossX(), second}, Floats: []api.Float{{Goods: "cork", Float: 2}}}
	for _, goods := range [2][2]string{{"cork", "iron"}, {"iron", "cork"}} {
		x := records{c: c}.with(t, "1 0 wind 0 9 0 0 1 1")
		for loss := 1; loss <= 2; loss++ {
			for i, name := range goods {
				id := strconv.Itoa(2*loss + i)
				x = x.with(t, id+" 0 package "+strconv.Itoa(loss)+" "+strconv.Itoa(i+1)+" 0 ? "+name+" 1 9 1 7")
			}
		}
		var fits [][]int
		for hour := 1; hour <= 3; hour++ {
			for cell := range 3 {
				for i, name := range goods {
					id := strconv.Itoa(len(fits) + 1)
					x = x.with(t, id+" 9 "+strconv.Itoa(hour)+" found "+strconv.Itoa(cell)+" ? "+name+" 1 9 3")
					// Of the loss 1 what floats high lands in the cell 2 at 1, and what floats deep there at 2; of the
					// loss 2 in the cell 1 at 2, and in the cell 0 at 3.
					var want []int
					if cell == 2 && (hour >= 2 || name == "cork") {
						want = append(want, i)
					}
					if name == "cork" && cell == 1 && hour >= 2 || name == "iron" && cell == 0 && hour == 3 {
						want = append(want, 2+i)
					}
					fits = append(fits, want)
				}
			}
		}
		b, e := x.build(9)
		fine(t, "Build", e)
		sameLists(t, "Build: fits", b.Fits, fits)
	}
}

// P4.1, D2: winds are asked as known at the hour of knowledge.
func TestWindsAsKnown(t *testing.T) {
	x := sample(t) // the second wind, known from 3 on, takes packages to the cell 3 as well
	x.reports = nil
	x = x.with(t, "1 1 1 found 3 ?? wool 60 60 3", "2 4 4 found 3 ?? wool 60 60 3")
	checkWhy(t, "with both winds", x, 4, 20, 2, api.FitYes)
	x.winds = x.winds[:1]
	checkWhy(t, "with one", x, 4, 20, 2, api.WhyDrift)
	late := x
	late.winds = nil
	late = late.with(t, "1 0 wind 0 9 0 0 0 1", "2 5 wind 2 3 0 1 1 1")
	checkWhy(t, "before the second one", late, 4, 20, 2, api.WhyDrift)
	checkWhy(t, "with the second one", late, 5, 20, 2, api.FitYes)
	late.winds = append(late.winds, api.Wind{Id: 3, Known: 6, Of: 2})
	checkWhy(t, "when it is withdrawn", late, 6, 20, 2, api.WhyDrift)
}

// manyFinds returns records with so many finds and packages: each find fits all packages.
func manyFinds(t *testing.T, finds, packs int) records {
	other := lossX()
	other.Id = 20
	x := records{c: api.Season{Sea: seaS(t), Losses: []api.Loss{lossX(), other}}}
	for i := range packs {
		x.papers = append(x.papers, api.Paper{Id: i + 1, Kind: api.PaperPackage, Loss: []int{1, 20}[i/200], Pack: i%200 + 1, Mark: "?", Goods: "wool",
			Weight: api.Span{Low: 1, High: 9}, Pieces: 1 + i%20, Owner: 1})
	}
	for i := range finds {
		x.reports = append(x.reports, api.Report{Id: i + 1, Known: 300, Hour: 300, Kind: api.ReportFound, Mark: "?", Goods: "wool", Weight: api.Span{Low: 1, High: 9}, Party: 1})
	}
	return x
}

// P4.1, D2: Build refuses more than 60 finds or 200 slots; Why does not.
func TestBuildLimits(t *testing.T) {
	for _, c := range []struct {
		finds, packs int
		want         api.Errno
	}{{60, 200, api.OK}, {61, 2, api.ErrLimit}, {1, 201, api.ErrLimit}, {200, 300, api.ErrLimit}, {0, 200, api.OK}, {60, 0, api.OK}, {0, 0, api.OK}, {0, 201, api.ErrLimit}} {
		x := manyFinds(t, c.finds, c.packs)
		b, e := x.build(300)
		if e != c.want {
			t.Errorf("%d finds, %d packages: error %d, want %d", c.finds, c.packs, e, c.want)
		}
		if e != api.OK {
			sameBoard(t, "Build", b, api.Board{})
		} else {
			sameBoard(t, "Build", b, boardOfMany(c.finds, c.packs))
			fine(t, "CheckBoard", match.CheckBoard(b))
		}
		for _, pack := range []int{1, 200} {
			if c.finds > 0 && c.packs >= pack {
				checkWhy(t, "of many", x, 300, 10*c.finds, pack, api.FitYes)
			}
		}
		if b, e := x.build(299); len(b.Finds) > 0 || (e != api.OK) != (c.packs > 200) {
			t.Errorf("%d finds, %d packages: Build before: error %d", c.finds, c.packs, e)
		}
	}
}

func boardOfMany(finds, packs int) api.Board {
	var b api.Board
	var all []int
	for i := range packs {
		b.Slots = append(b.Slots, api.Slot{Loss: 1, Pack: i + 1, Pieces: 1 + i%20})
		all = append(all, i)
	}
	for i := range finds {
		b.Finds = append(b.Finds, 10*i+10)
		b.Fits = append(b.Fits, all)
	}
	return b
}

// randomSeason returns a season with a small sea, some losses, and goods of which some float high.
func randomSeason(r *rand.Rand) api.Season {
	c := api.Season{Sea: api.Sea{Cells: 2 + r.IntN(5), Bands: 1 + r.IntN(2)}}
	for range c.Sea.Cells {
		c.Sea.Heights = append(c.Sea.Heights, r.IntN(10))
	}
	for range 1 + r.IntN(3) {
		c.Sea.Tides = append(c.Sea.Tides, api.Tide{Along: r.IntN(5) - 2, Height: r.IntN(10)})
	}
	for id := range 4 {
		if r.IntN(2) == 0 {
			cell, first := r.IntN(c.Sea.Cells), r.IntN(5)
			c.Losses = append(c.Losses, api.Loss{Id: id + 1, Cells: api.Range{Low: cell, High: cell}, Bands: api.Range{Low: c.Sea.Bands, High: c.Sea.Bands},
				Hours: api.Range{Low: first, High: first + r.IntN(2)}})
		}
	}
	for _, goods := range []string{"oil", "wool"} {
		if r.IntN(2) == 0 {
			c.Floats = append(c.Floats, api.Float{Goods: goods, Float: uint8(1 + r.IntN(2))})
		}
	}
	return c
}

func randomSpan(r *rand.Rand, most int) api.Span {
	a, b := 1+r.IntN(most), 1+r.IntN(most)
	return api.Span{Low: min(a, b), High: max(a, b)}
}

// pick returns one of some strings, the first ones more often.
func pick(r *rand.Rand, words ...string) string { return words[r.IntN(1+r.IntN(len(words)))] }

// grow adds a random wind, paper or report to records, if it is not refused.
func (x records) grow(r *rand.Rand, hour int) records {
	id := 1 + r.IntN(150)
	switch r.IntN(5) {
	case 0:
		from := r.IntN(8)
		along, ashore := r.IntN(4)-2, r.IntN(3)-1
		x.winds = appended(x.winds, drift.Append, api.Wind{Id: id, Known: hour, From: from, Until: from + r.IntN(4), Along: api.Range{Low: along, High: along + r.IntN(2)},
			Ashore: api.Range{Low: ashore, High: ashore + 1}})
	case 1, 2:
		p := api.Paper{Id: id, Known: hour, Kind: api.PaperPackage, Loss: 1 + r.IntN(4), Pack: 1 + r.IntN(4), In: r.IntN(8) / 5, Mark: pick(r, "??", "a?", "ab", "?b", "abc"),
			Goods: pick(r, "wool", "oil"), Weight: randomSpan(r, 60), Pieces: 1 + r.IntN(3), Owner: 1}
		if r.IntN(5) == 0 {
			p = api.Paper{Id: id, Known: hour, Kind: api.PaperTotal, Loss: p.Loss, Pack: r.IntN(3), Count: r.IntN(4), Weight: randomSpan(r, 90)}
		}
		x.papers = appended(x.papers, cargo.Append, p)
	default:
		x.reports = appended(x.reports, find.Append, x.randomReport(r, id, hour))
	}
	return x
}

func appended[T any](l []T, add func([]T, T) ([]T, api.Errno), x T) []T {
	if longer, e := add(l, x); e == api.OK {
		return longer
	}
	return l
}

func (x records) randomReport(r *rand.Rand, id, hour int) api.Report {
	parcels, _ := find.Parcels(x.reports, hour)
	y := api.Report{Id: id, Known: hour, Hour: max(0, hour-r.IntN(3))}
	if len(parcels) == 0 || r.IntN(2) == 0 {
		y.Kind, y.Cell, y.Party = api.ReportFound, r.IntN(x.c.Sea.Cells+1), 1
		y.Mark, y.Goods, y.Weight = pick(r, "ab", "??", "?b", "cb", "abc"), pick(r, "wool", "oil"), randomSpan(r, 80)
		return y
	}
	y.Parcel = parcels[r.IntN(len(parcels))].Id
	y.Kind = []uint8{api.ReportDivided, api.ReportWeighed, api.ReportWeighed, api.ReportSame}[r.IntN(4)]
	switch y.Kind {
	case api.ReportDivided:
		y.Count = 2
	case api.ReportWeighed:
		y.Weight = randomSpan(r, 80)
	default:
		y.Other = parcels[r.IntN(len(parcels))].Id
	}
	return y
}

// randomRecords returns records of a random season up to an hour of knowledge.
func randomRecords(r *rand.Rand) (records, int) {
	x := records{c: randomSeason(r)}
	hour := 0
	for range 10 + r.IntN(40) {
		hour += r.IntN(2)
		if r.IntN(60) == 0 {
			hour += 200
		}
		x = x.grow(r, hour)
	}
	return x, hour
}

// P4.1, P4.7, D2: on random records Why and Build say what the model says, with each reason.
func TestRandomFits(t *testing.T) {
	t.Parallel()
	r := rand.New(rand.NewPCG(4, 9))
	seen := map[uint8]int{}
	for range 400 {
		x, known := randomRecords(r)
		known -= r.IntN(3)
		b, e := x.build(known)
		finds, _ := find.Finds(x.reports, known)
		if !slices.Equal(b.Finds, finds) || !slices.Equal(b.Slots, x.modelSlots(known)) || len(b.Fits) != len(finds) || e != api.OK {
			t.Fatalf("Build at %d of %+v: %+v, error %d", known, x, b, e)
		}
		for i, parcel := range finds {
			for j, slot := range b.Slots {
				why, e := x.why(known, parcel, slot.Loss, slot.Pack)
				want, f := x.modelWhy(known, parcel, slot.Loss, slot.Pack)
				if why != want || e != f || slices.Contains(b.Fits[i], j) != (why == api.FitYes) {
					t.Fatalf("Why of %d and %+v at %d of %+v: %d, error %d, want %d, error %d; Fits %v", parcel, slot, known, x, why, e, want, f, b.Fits[i])
				}
				seen[why]++
			}
		}
		for range 10 {
			parcel, loss, pack := 10*r.IntN(160), 1+r.IntN(4), 1+r.IntN(4)
			why, e := x.why(known, parcel, loss, pack)
			if want, f := x.modelWhy(known, parcel, loss, pack); why != want || e != f {
				t.Fatalf("Why of %d and %d, %d at %d of %+v: %d, error %d, want %d, error %d", parcel, loss, pack, known, x, why, e, want, f)
			}
		}
	}
	for why := range uint8(5) {
		if seen[why] < 100 {
			t.Errorf("reason %d: seen %d times only", why, seen[why])
		}
	}
}

// isNarrower reports whether a board has the same finds and slots as another one, and no fits that this has not; and
// whether it has fewer.
func isNarrower(a, b api.Board) (is, fewer bool) {
	if !slices.Equal(a.Finds, b.Finds) || !slices.Equal(a.Slots, b.Slots) {
		return false, false
	}
	for i := range a.Fits {
		if !isAmong(a.Fits[i], b.Fits[i]) {
			return false, false
		}
		fewer = fewer || len(a.Fits[i]) < len(b.Fits[i])
	}
	return true, fewer
}

// P4.7: a wind more for hours for which there was none, and a weighing more, take fits away and add none.
func TestNarrowing(t *testing.T) {
	t.Parallel()
	r := rand.New(rand.NewPCG(4, 10))
	taken := [2]int{}
	for range 1200 {
		x, known := randomRecords(r)
		before, e := x.build(known)
		fine(t, "Build", e)
		for kind, more := range [2]records{x.narrowerByWinds(r, known), x.narrowerByWeighing(r, known)} {
			after, e := more.build(known)
			fine(t, "Build", e)
			is, fewer := isNarrower(after, before)
			if !is {
				t.Fatalf("%+v: from %+v to %+v", more, before, after)
			}
			if fewer {
				taken[kind]++
			}
		}
	}
	if taken[0] < 10 || taken[1] < 10 {
		t.Errorf("fits were taken away by winds and weighings %v times only", taken)
	}
}

// narrowerByWinds returns records with a wind for each hour for which there was none.
func (x records) narrowerByWinds(r *rand.Rand, known int) records {
	for hour := range 12 {
		if _, is, _ := drift.WindAt(x.winds, known, hour); is {
			continue
		}
		along := r.IntN(5) - 2
		x.winds = appended(x.winds, drift.Append, api.Wind{Id: 1000 + hour, Known: known, From: hour, Until: hour, Along: api.Range{Low: along, High: along}, Ashore: api.Range{High: 1}})
	}
	return x
}

// narrowerByWeighing returns records with a weighing more, if the reports do not contradict each other then.
func (x records) narrowerByWeighing(r *rand.Rand, known int) records {
	parcels, _ := find.Parcels(x.reports, known)
	for _, p := range parcels {
		low := 30 + r.IntN(40)
		y := api.Report{Id: 1000 + p.Id, Known: known, Hour: known, Kind: api.ReportWeighed, Parcel: p.Id, Weight: api.Span{Low: low, High: low + r.IntN(20)}}
		longer := appended(x.reports, find.Append, y)
		if _, is, _ := find.Conflict(longer, known); !is {
			x.reports = longer
			return x
		}
	}
	return x
}

// P4.7: what is known later changes nothing.
func TestKnownLater(t *testing.T) {
	t.Parallel()
	r := rand.New(rand.NewPCG(4, 11))
	for range 200 {
		x, known := randomRecords(r)
		before, e := x.build(known)
		fine(t, "Build", e)
		more := x
		for range 10 {
			more = more.grow(r, known+1)
		}
		after, e := more.build(known)
		fine(t, "Build", e)
		sameBoard(t, "Build with what is known later", after, before)
	}
}
