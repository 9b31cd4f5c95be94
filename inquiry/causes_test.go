package inquiry_test

import (
	"math"
	"slices"
	"testing"

	"lagan/api"
	"lagan/inquiry"
	"lagan/post"
)

// checkCauses holds the causes by the records of the examples, and more of them, against what they should be.
func checkCauses(t testing.TB, what string, known, hour int, more []string, want ...api.Cause) {
	t.Helper()
	l := byRefs(recordsOf(t, append(slices.Clone(exampleLines), more...)...))
	if got, e := inquiry.Causes(seasonC(t), 5, l, known, hour); !slices.Equal(got, want) || e != api.OK {
		t.Errorf("%s: %+v, error %d, want %+v", what, got, e, want)
	}
}

func cause(parcel, reason, known int) api.Cause {
	return api.Cause{Parcel: parcel, Reason: reason, Known: known}
}

// P9.1, I7: the last record that changed what is due, and none that did not.
func TestCauses(t *testing.T) {
	checkCauses(t, "the example", 20, 20, nil, cause(60, 20, 20))
	checkCauses(t, "before the sale", 19, 20, nil)
	checkCauses(t, "no hour of knowledge", -1, 20, nil)
	checkCauses(t, "any hour of knowledge", math.MaxInt, 20, nil, cause(60, 20, 20))
	checkCauses(t, "an hour far away", 20, math.MinInt, nil, cause(60, 20, 20))
	checkCauses(t, "records that change nothing", 40, 20, []string{
		"2 1 21 wind wind 90 91 0 0 0 0", "2 2 22 deed 21 claim 1 1 8", "2 3 23 deed 3 paid 1 2 8 9 1 2", "2 4 24 report 24 hidden 110 3",
		"2 5 25 nonsense", "2 6 26 rate rate 0 wool 1 2 0 0", "2 7 27 sale 27 sale 60 200 0 0 0", "0 5 28 posting sale 60 100 20 20", "0 6 29 posting pay 7 60 80 20 20",
	}, cause(60, 20, 20))
	title := []string{"2 1 21 deed 3 paid 1 1 7 9 1 2"}
	checkCauses(t, "a title", 40, 20, title, cause(60, 7, 21))
	checkCauses(t, "a title that is known later", 20, 20, title, cause(60, 20, 20))
	checkCauses(t, "a title at a later hour", 40, 2, title, cause(60, 20, 20))
	checkCauses(t, "a rate", 40, 20, []string{"2 1 21 rate rate 1 oil 1 2 0 0"}, cause(60, 7, 21))
	checkCauses(t, "a rate from later on", 40, 20, []string{"2 1 21 rate rate 4 oil 1 2 0 0"}, cause(60, 20, 20))
	checkCauses(t, "a wind", 40, 20, []string{"2 1 21 wind wind 0 9 0 0 0 2"}, cause(60, 7, 21))
	checkCauses(t, "another owner", 40, 20, []string{"2 1 21 paper package 1 1 0 ab oil 40 60 2 9"}, cause(60, 7, 21))
	checkCauses(t, "finds for which there are no pieces", 40, 20, []string{"2 1 21 report 21 found 0 ab oil 1 2 3"}, cause(60, 7, 21))
	checkCauses(t, "and that are one", 40, 20, []string{"2 1 21 report 21 found 0 ab oil 1 2 3", "2 2 22 report 22 same 60 110"}, cause(60, 12, 22))
	claim := []string{"2 1 21 deed 21 claim 1 1 7"}
	checkCauses(t, "a claim, before the deadline", 40, 8787, claim, cause(60, 20, 20))
	checkCauses(t, "a claim, behind the deadline", 40, 8788, claim, cause(60, 7, 21))
	checkCauses(t, "a claim that is withdrawn", 40, 8788, append(claim, "2 2 22 deed void 7"), cause(60, 12, 22))
	checkCauses(t, "a sale that is withdrawn", 40, 20, []string{"2 1 21 sale void 20"}, cause(60, 7, 21))
	checkCauses(t, "a rate that is there and away again", 40, 20, []string{"2 1 21 rate rate 1 oil 1 2 0 0", "2 2 22 rate void 7"}, cause(60, 12, 22))
	checkCauses(t, "a rate that comes late", 40, 20, []string{"2 1 21 sale 21 sale 110 9 0 0 0", "2 2 22 rate void 15", "2 3 23 rate rate 0 all 1 5 0 0"}, cause(60, 17, 23), cause(110, 17, 23))
	checkCauses(t, "several parcels", 40, 20, []string{"2 1 21 sale 21 sale 110 9 0 0 0", "2 2 22 report 22 divided 60 2", "2 3 23 sale 23 sale 121 9 0 0 0", "2 4 24 sale 24 sale 120 9 0 0 0"},
		cause(60, 20, 20), cause(110, 7, 21), cause(120, 22, 24), cause(121, 17, 23))
	checkCauses(t, "a parcel that is none", 40, 20, []string{"2 1 21 sale 21 sale 70 9 0 0 0"}, cause(60, 20, 20))
	checkCauses(t, "a parcel that is none any more", 40, 20, []string{"2 1 21 report 21 same 110 60"}, cause(60, 7, 21))
	checkCauses(t, "of one hour the last one in the one order", 40, 20, []string{"2 1 21 deed 3 paid 1 1 7 9 1 2", "3 1 21 deed 3 paid 1 1 7 8 1 2"}, cause(60, 8, 21))
	if l, e := inquiry.Causes(seasonC(t), 2, nil, 20, 20); len(l) > 0 || e != api.OK {
		t.Errorf("no records: %v, error %d", l, e)
	}
}

// P9.1, I7, P9.7: the model on random records; by the books up to the record of a cause, and by all, the same is due.
func TestCausesModel(t *testing.T) {
	t.Parallel()
	some := 0
	for seed := range uint64(120) {
		c, r := randomTale(t, 3000+seed, 20+int(seed%40))
		book := r.book()
		b, _, _ := inquiry.Told(c, 3, book)
		if !isSmall(b, r.hour) {
			continue
		}
		known, hour := r.hour-r.IntN(9)*r.IntN(2), r.hour+r.IntN(2)*8770
		causes, e := inquiry.Causes(c, 3, book, known, hour)
		if want := modelCauses(c, book, known, hour); !slices.Equal(causes, want) || e != api.OK {
			t.Errorf("seed %d: %+v, error %d, want %+v", seed, causes, e, want)
		}
		some += len(causes)
		until, _ := post.Until(3, book, known)
		all := modelTell(c, until)
		ordered, _ := post.Order(3, until)
		for _, x := range causes {
			i := slices.IndexFunc(ordered, func(y api.Record) bool { return 5*y.Number+y.Station == x.Reason })
			then, _ := inquiry.DuesOf(all[i+1], known, x.Parcel, hour)
			now, _ := inquiry.DuesOf(all[len(all)-1], known, x.Parcel, hour)
			if !slices.Equal(then, now) || ordered[i].Hour != x.Known {
				t.Errorf("seed %d, %+v: %v, and then %v", seed, x, then, now)
			}
		}
	}
	if some < 30 {
		t.Errorf("only %d causes", some)
	}
}
