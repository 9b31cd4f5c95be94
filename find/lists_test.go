package find_test

import (
	"fmt"
	"math/rand/v2"
	"reflect"
	"slices"
	"testing"

	"lagan/api"
	"lagan/find"
)

// shore is a list on which each error of a further report can be shown: 10 is there, 20 is divided into 30 and 31,
// 40 is hidden, 50 is the same as 60, and 70 is of other goods.
func shore(t testing.TB) []api.Report {
	t.Helper()
	return read(t, "1 5 5 found 1 a oil 4 6 1", "2 5 5 found 1 a oil 4 6 1", "3 6 6 divided 20 2", "4 6 5 found 1 b oil 4 6 1",
		"5 6 5 found 1 a oil 4 6 1", "6 6 6 found 1 a oil 4 6 1", "7 6 5 found 1 a wool 4 6 1", "8 7 7 hidden 40 3", "9 7 7 same 50 60",
		"11 7 7 weighed 10 5 5", "12 8 void 11", "13 8 8 weighed 10 5 5")
}

// P3.1, C1: the errors of a report behind others, and of two errors the one that is checked first.
func TestRefusals(t *testing.T) {
	for _, c := range []struct {
		line string
		want api.Errno
	}{
		{"20 9 9 found 0 a oil 1 1 1", api.OK},
		{"20 9 0 found 0 a oil 1 1 1", api.OK},
		{"20 8 0 found 0 a oil 1 1 1", api.OK},
		{"3 9 9 found 0 a oil 1 1 1", api.ErrTwice},
		{"11 9 9 found 0 a oil 1 1 1", api.ErrTwice}, // though it is withdrawn
		{"12 9 9 found 0 a oil 1 1 1", api.ErrTwice}, // though it is a void
		{"20 7 7 found 0 a oil 1 1 1", api.ErrTime},
		{"3 7 7 found 0 a oil 1 1 1", api.ErrTwice},
		{"3 7 7 weighed 20 1 1", api.ErrTwice},
		{"20 7 7 weighed 20 1 1", api.ErrTime},
		{"20 7 void 99", api.ErrTime},

		{"20 9 8 weighed 10 1 1", api.OK},
		{"20 9 7 weighed 10 1 1", api.ErrTime}, // weighed at 8
		{"20 9 6 divided 10 2", api.ErrTime},
		{"20 9 6 weighed 30 1 1", api.OK},
		{"20 9 5 weighed 30 1 1", api.ErrTime}, // made at 6
		{"20 9 9 weighed 20 1 1", api.ErrParcel},
		{"20 9 9 weighed 32 1 1", api.ErrParcel},
		{"20 9 9 weighed 11 1 1", api.ErrParcel},
		{"20 9 9 weighed 60 1 1", api.ErrParcel}, // is 50 now
		{"20 9 7 weighed 50 1 1", api.OK},
		{"20 9 6 weighed 50 1 1", api.ErrTime}, // named at 7
		{"20 9 9 weighed 40 1 1", api.ErrHidden},
		{"20 9 1 weighed 40 1 1", api.ErrHidden},
		{"20 9 9 weighed 200 1 1", api.ErrParcel},

		{"20 9 9 divided 10 8", api.OK},
		{"20 9 9 divided 20 2", api.ErrParcel},
		{"20 9 9 divided 40 2", api.ErrHidden},
		{"20 9 9 divided 200 2", api.ErrParcel}, // what it makes itself is not there before
		{"20 9 9 divided 201 2", api.ErrParcel},

		{"20 9 9 joined 10 30 31 50 70", api.OK},
		{"20 9 8 joined 30 10", api.OK},
		{"20 9 7 joined 30 10", api.ErrTime},
		{"20 9 9 joined 30 20", api.ErrParcel},
		{"20 9 9 joined 30 40", api.ErrHidden},
		{"20 9 9 joined 40 20", api.ErrParcel}, // before that 40 is hidden
		{"20 9 0 joined 30 40", api.ErrHidden},
		{"20 9 9 joined 200 10", api.ErrParcel},

		{"20 9 9 hidden 10 1", api.OK},
		{"20 9 9 hidden 40 1", api.ErrHidden},
		{"20 9 9 hidden 20 1", api.ErrParcel},
		{"20 9 7 hidden 10 1", api.ErrTime},
		{"20 9 9 shown 40 1", api.OK},
		{"20 9 7 shown 40 1", api.OK},
		{"20 9 6 shown 40 1", api.ErrTime},
		{"20 9 9 shown 10 1", api.ErrHidden},
		{"20 9 9 shown 20 1", api.ErrParcel},

		{"20 9 9 same 10 50", api.OK},
		{"20 9 9 same 50 10", api.OK},
		{"20 9 7 same 50 10", api.ErrTime},
		{"20 9 7 same 10 50", api.ErrTime},
		{"20 9 9 same 10 70", api.ErrState},
		{"20 9 7 same 10 70", api.ErrTime},
		{"20 9 9 same 10 40", api.ErrHidden},
		{"20 9 9 same 70 40", api.ErrHidden},
		{"20 9 9 same 40 10", api.ErrHidden},
		{"20 9 9 same 10 60", api.ErrParcel},
		{"20 9 9 same 60 10", api.ErrParcel},
		{"20 9 9 same 10 30", api.ErrParcel}, // 30 is no find
		{"20 9 9 same 30 10", api.ErrParcel},
		{"20 9 9 same 40 30", api.ErrParcel},
		{"20 9 9 same 10 20", api.ErrParcel},

		{"20 9 void 13", api.OK},
		{"20 9 void 11", api.ErrNone}, // is withdrawn
		{"20 9 void 12", api.ErrNone}, // is a void
		{"20 9 void 21", api.ErrNone},
		{"20 9 void 1", api.ErrState},
		{"20 9 void 2", api.ErrState},
		{"20 9 void 3", api.OK},
		{"20 9 void 4", api.ErrState},
		{"20 9 void 5", api.ErrState},
		{"20 9 void 6", api.ErrState},
		{"20 9 void 7", api.OK},
		{"20 9 void 8", api.OK},
		{"20 9 void 9", api.OK},
	} {
		l, x := shore(t), read(t, c.line)[0]
		if i, e := find.Check(l); i != 0 || e != api.OK {
			t.Fatalf("Check: %d, error %d", i, e)
		}
		longer, e := find.Append(l, x)
		if e != c.want || (len(longer) == 0) != (e != api.OK) {
			t.Errorf("Append of %q: %d reports, error %d, want %d", c.line, len(longer), e, c.want)
		}
		if e == api.OK && !reflect.DeepEqual(longer, with(t, shore(t), c.line)) {
			t.Errorf("Append of %q: %v", c.line, longer)
		}
		at := 0
		if c.want != api.OK {
			at = len(l)
		}
		if i, e := find.Check(append(l, x)); i != at || e != c.want {
			t.Errorf("Check with %q: %d, error %d, want %d", c.line, i, e, c.want)
		}
	}
}

// P3.1, C1: a report without form is refused before all that is asked of the others, but behind the limit.
func TestRefusalForm(t *testing.T) {
	l := shore(t)
	for _, x := range []api.Report{{}, {Id: 3}, {Id: 20, Known: 1}, {Id: 20, Known: 9, Kind: api.ReportVoid, Of: 20}, {Id: 20, Known: 9, Kind: api.ReportVoid, Hour: 1, Of: 13}} {
		if r, e := find.Append(l, x); len(r) > 0 || e != api.ErrArg {
			t.Errorf("Append of %+v: %d reports, error %d", x, len(r), e)
		}
		spoilt := slices.Insert(slices.Clone(l), 2, x)
		if i, e := find.Check(spoilt); i != 2 || e != api.ErrArg {
			t.Errorf("Check with %+v: %d, error %d", x, i, e)
		}
		if r, e := find.Append(spoilt, l[0]); len(r) > 0 || e != api.ErrArg {
			t.Errorf("Append behind %+v: %d reports, error %d", x, len(r), e)
		}
	}
}

// manyReports returns a list of finds.
func manyReports(n int) []api.Report {
	var l []api.Report
	for i := range n {
		l = append(l, api.Report{Id: i + 1, Kind: api.ReportFound, Mark: "a", Goods: "oil", Weight: api.Span{Low: 1, High: 2}, Party: 1})
	}
	return l
}

// P3.1, C1: at most 200 reports.
func TestLimit(t *testing.T) {
	l := manyReports(200)
	if i, e := find.Check(l); i != 0 || e != api.OK {
		t.Errorf("Check of 200: %d, error %d", i, e)
	}
	for _, x := range []api.Report{manyReports(201)[200], l[0], {}} {
		if i, e := find.Check(append(l[:200:200], x)); i != 200 || e != api.ErrLimit {
			t.Errorf("Check of 201: %d, error %d", i, e)
		}
		if r, e := find.Append(l, x); len(r) > 0 || e != api.ErrLimit {
			t.Errorf("Append to 200: %d reports, error %d", len(r), e)
		}
	}
	if r, e := find.Append(l[:199], l[199]); len(r) != 200 || e != api.OK {
		t.Errorf("Append to 199: %d reports, error %d", len(r), e)
	}
	for i := 100; i < 200; i++ { // what is withdrawn, and what withdraws it, are of the 200
		l[i] = api.Report{Id: i + 1, Kind: api.ReportVoid, Of: i - 99}
	}
	if i, e := find.Check(l); i != 0 || e != api.OK {
		t.Errorf("Check of 100 voids: %d, error %d", i, e)
	}
	if r, e := find.Append(l, manyReports(201)[200]); len(r) > 0 || e != api.ErrLimit {
		t.Errorf("Append to 100 voids: %d reports, error %d", len(r), e)
	}
	long := append(l[:200:200], l...)
	long[9] = api.Report{}
	if i, e := find.Check(long); i != 9 || e != api.ErrArg {
		t.Errorf("Check of 400, of which the tenth has no form: %d, error %d", i, e)
	}
}

// P3.1, C1: what a void gives back can be used again, and what it takes away cannot.
func TestVoids(t *testing.T) {
	for _, c := range []struct {
		lines []string
		want  api.Errno
	}{
		{[]string{"20 9 void 3", "21 9 9 weighed 20 1 1"}, api.OK},
		{[]string{"20 9 void 3", "21 9 5 weighed 20 1 1"}, api.OK}, // the division at 6 does not count
		{[]string{"20 9 void 3", "21 9 9 weighed 30 1 1"}, api.ErrParcel},
		{[]string{"20 9 void 3", "21 9 void 2"}, api.OK},
		{[]string{"20 9 void 3", "21 9 void 2", "22 9 9 weighed 20 1 1"}, api.ErrParcel},
		{[]string{"20 9 void 3", "21 9 void 3"}, api.ErrNone},
		{[]string{"20 9 9 weighed 30 1 1", "21 9 void 3"}, api.ErrState},
		{[]string{"20 9 9 weighed 30 1 1", "21 9 void 20", "22 9 void 3"}, api.OK},
		{[]string{"20 9 void 8", "21 9 9 weighed 40 1 1"}, api.OK},
		{[]string{"20 9 void 8", "21 9 9 shown 40 1"}, api.ErrHidden},
		{[]string{"20 9 9 shown 40 1", "21 9 void 8"}, api.ErrState},
		{[]string{"20 9 9 shown 40 1", "21 9 void 20", "22 9 9 weighed 40 1 1"}, api.ErrHidden},
		{[]string{"20 9 9 shown 40 1", "21 9 9 hidden 40 1", "22 9 9 weighed 40 1 1"}, api.ErrHidden},
		{[]string{"20 9 9 shown 40 1", "21 9 9 hidden 40 1", "22 9 9 shown 40 1", "23 9 9 weighed 40 1 1"}, api.OK},
		{[]string{"20 9 void 9", "21 9 9 weighed 60 1 1"}, api.OK},
		{[]string{"20 9 9 weighed 50 1 1", "21 9 void 9"}, api.ErrState},
		{[]string{"20 9 void 13", "21 9 5 weighed 10 1 1"}, api.OK}, // neither weighing counts
		{[]string{"20 9 9 weighed 10 1 1", "21 9 void 13"}, api.OK}, // though 10 is named behind it
		{[]string{"20 9 9 divided 10 2", "21 9 void 13", "22 9 9 weighed 200 1 1"}, api.OK},
	} {
		l, e := shore(t), api.OK
		for i, x := range read(t, c.lines...) {
			if i < len(c.lines)-1 {
				l, e = find.Append(l, x)
				if e != api.OK {
					t.Fatalf("Append of %q: error %d", c.lines[i], e)
				}
			} else if _, e = find.Append(l, x); e != c.want {
				t.Errorf("Append of %q: error %d, want %d", c.lines, e, c.want)
			}
		}
	}
}

// P3.1, C1: random reports are refused as the model refuses them.
func TestRandomRefusals(t *testing.T) {
	t.Parallel()
	r := rand.New(rand.NewPCG(3, 1))
	seen := map[string]int{}
	for range 300 {
		w := newWriter(r, 9, 0.2)
		for range 60 {
			x := w.report()
			want := find.CheckReport(x)
			if want == api.OK {
				want = modelRefusal(w.l, x)
			}
			longer, e := find.Append(w.l, x)
			if e != want {
				t.Fatalf("Append of %+v to %+v: error %d, want %d", x, w.l, e, want)
			}
			seen[fmt.Sprint(x.Kind, e)]++
			if e != api.OK {
				continue
			}
			w.enter(x)
			if !reflect.DeepEqual(longer, w.l) {
				t.Fatalf("Append: %+v, want %+v", longer, w.l)
			}
		}
		if i, e := find.Check(w.l); i != 0 || e != api.OK {
			t.Fatalf("Check of %+v: %d, error %d", w.l, i, e)
		}
		for range 10 {
			l := slices.Clone(w.l)
			i := r.IntN(len(l))
			l[i] = w.report()
			at, want := 0, api.OK
			for j := range l {
				e := find.CheckReport(l[j])
				if e == api.OK {
					e = modelRefusal(l[:j], l[j])
				}
				if e != api.OK {
					at, want = j, e
					break
				}
			}
			if i, e := find.Check(l); i != at || e != want {
				t.Fatalf("Check of %+v: %d, error %d, want %d, %d", l, i, e, at, want)
			}
		}
	}
	for kind := 1; kind <= 8; kind++ {
		wants := []api.Errno{api.OK, api.ErrTwice, api.ErrTime}
		if kind == 8 {
			wants = append(wants, api.ErrNone, api.ErrState)
		} else if kind > 1 {
			wants = append(wants, api.ErrParcel, api.ErrHidden)
		}
		for _, e := range wants {
			if seen[fmt.Sprint(kind, e)] < 5 {
				t.Errorf("kind %d, error %d: seen %d times only", kind, e, seen[fmt.Sprint(kind, e)])
			}
		}
	}
}

// P3.1, C2, and P3.8: the reports that count at an hour of knowledge.
func TestCounting(t *testing.T) {
	l := with(t, shore(t), "20 9 void 13", "21 12 void 3")
	for _, c := range []struct {
		known int
		ids   []int
	}{
		{-5, nil}, {4, nil}, {5, []int{1, 2}}, {6, []int{1, 2, 3, 4, 5, 6, 7}}, {7, []int{1, 2, 3, 4, 5, 6, 7, 8, 9, 11}},
		{8, []int{1, 2, 3, 4, 5, 6, 7, 8, 9, 13}}, {11, []int{1, 2, 3, 4, 5, 6, 7, 8, 9}}, {12, []int{1, 2, 4, 5, 6, 7, 8, 9}},
	} {
		counts, e := find.Counting(l, c.known)
		var ids []int
		for _, x := range counts {
			ids = append(ids, x.Id)
		}
		if !slices.Equal(ids, c.ids) || e != api.OK {
			t.Errorf("Counting at %d: %v, error %d, want %v", c.known, ids, e, c.ids)
		}
	}
	r := rand.New(rand.NewPCG(3, 2))
	for range 50 {
		l := newWriter(r, 9, 0).list(25)
		for _, known := range hours(l) {
			if counts, e := find.Counting(l, known); !reflect.DeepEqual(counts, modelCounting(l, known)) || e != api.OK {
				t.Fatalf("Counting at %d of %+v: %+v, error %d", known, l, counts, e)
			}
		}
	}
}
