package inquiry_test

import (
	"math"
	"math/rand/v2"
	"slices"
	"strings"
	"testing"

	"lagan/api"
	"lagan/inquiry"
)

// readAnswer returns the answer with a string.
func readAnswer(t testing.TB, s string) api.Answer {
	t.Helper()
	a, e := inquiry.ReadAnswer(s)
	if e != api.OK {
		t.Fatalf("ReadAnswer of %q: error %d", s, e)
	}
	return a
}

// asked returns what Ask answers to a question, which has to be shown, and is held against the Values that are wanted.
func asked(t testing.TB, b api.Books, s, values string) api.Answer {
	t.Helper()
	q := question(t, s)
	a, e := inquiry.Ask(b, q)
	if want := readAnswer(t, values).Values; !slices.Equal(a.Values, want) || e != api.OK {
		t.Errorf("Ask %q: %+v, error %d, want %v", s, a, e, want)
	}
	if is, e := inquiry.Check(b, q, a); !is || e != api.OK {
		t.Errorf("Check %q of %+v: %v, error %d", s, a, is, e)
	}
	return a
}

// isShown returns what Check says of an answer with a string.
func isShown(t testing.TB, b api.Books, s, a string) bool {
	t.Helper()
	is, e := inquiry.Check(b, question(t, s), readAnswer(t, a))
	if e != api.OK {
		t.Errorf("Check %q of %q: error %d", s, a, e)
	}
	return is
}

// checkShown holds which answers are shown, and which are not, against Check.
func checkShown(t testing.TB, b api.Books, s string, shown, not []string) {
	t.Helper()
	for _, a := range shown {
		if !isShown(t, b, s, a) {
			t.Errorf("Check %q of %q: false", s, a)
		}
	}
	for _, a := range not {
		if isShown(t, b, s, a) {
			t.Errorf("Check %q of %q: true", s, a)
		}
	}
}

// P9.1, I9: the examples.
func TestAskExamples(t *testing.T) {
	b := booksB(t)
	for _, c := range []struct{ question, answer string }{
		{"at 20 weight 60", "1 10 20 | 10 30 | | 20 30 |"},
		{"at 20 may 60 1 1", "1 | 0 0"},
		{"at 20 may 60 1 2", "0 | | 0 0"},
		{"at 20 assign", "1 | 0 0"},
		{"at 20 title 1 1 20", "7 1 1"},
		{"at 20 sure 60 20", "1 7 1 1 | 0 0 | 1 0 0"},
		{"at 20 due 60 20", "1 4 20 7 80 | 0 0 | 1 0 0"},
	} {
		a := asked(t, b, c.question, strings.Split(c.answer, " |")[0])
		if s, e := inquiry.WriteAnswer(a); s != c.answer || e != api.OK {
			t.Errorf("Ask %q: %q, error %d", c.question, s, e)
		}
		checkShown(t, b, c.question, []string{c.answer}, []string{"", "|", c.answer + " |", c.answer + " 1", "0 | 0 0", "2 | 0 0", "1", "0", "-1 | 0 0"})
	}
}

// P9.1, I9: weights of parcels.
func TestWeights(t *testing.T) {
	b := told(t, seasonC(t), "0 1 5 report 5 found 7 ab? oil 40 60 3", "0 2 6 report 6 found 8 abc oil 10 20 4", "0 3 9 report 9 divided 50 2",
		"0 4 12 report 12 joined 151 100", "0 5 13 report 13 weighed 200 35 45", "0 6 20 report 14 weighed 200 70 80")
	asked(t, b, "at 12 weight 151", "1 1 59")
	asked(t, b, "at 13 weight 151", "1 15 35")
	asked(t, b, "at 13 weight 50", "1 40 60")
	asked(t, b, "at 20 weight 151", "0")
	asked(t, b, "at 20 weight 50", "0")
	// The parcels are 50, 100, 150, 151, 200; the moves are 15 and 20.
	checkShown(t, b, "at 13 weight 151", []string{
		"1 15 35 | 40 20 25 15 35 | 20 | 40 10 5 35 45 | 20",
		"1 15 35 | 59 20 44 15 35 | 20 | 60 10 25 35 45 | 20",
	}, []string{
		"1 15 35 | 40 20 25 15 35 | 20 | 40 10 5 35 45 | 15",
		"1 15 35 | 40 20 25 15 35 | 15 | 40 10 5 35 45 | 20",
		"1 15 35 | 40 20 25 15 35 | | 40 10 5 35 45 | 20",
		"1 15 35 | 40 10 5 35 45 | 20 | 40 20 25 15 35 | 20", // turned
		"1 15 35 | 40 20 24 16 36 | 20 | 40 10 5 35 45 | 20", // balanced, but 16
		"1 15 35 | 40 20 25 15 36 | 20 | 40 10 5 35 45 | 20", // not balanced
		"1 15 35 | 20 25 15 35 | 20 | 40 10 5 35 45 | 20",
		"1 15 35 | 15 | 20 | 35 | 20",
		"1 15 35 | | 20 | | 20",
		"1 14 35 | 40 20 25 15 35 | 20 | 40 10 5 35 45 | 20",
		"1 15 36 | 40 20 25 15 35 | 20 | 40 10 5 35 45 | 20",
		"1 16 35 | 40 20 24 16 36 | 20 | 40 10 5 35 45 | 20", // nothing shows this end
		"1 15 | 40 20 25 15 35 | 20 | 40 10 5 35 45 | 20",
		"1 15 35 1 | 40 20 25 15 35 | 20 | 40 10 5 35 45 | 20",
		"1 15 35 | 40 20 25 15 35 | 20 | 40 10 5 35 45",
		"1 15 35 | 40 20 25 15 35 | 20 | 40 10 5 35 45 | 20 |",
		"2 15 35 | 40 20 25 15 35 | 20 | 40 10 5 35 45 | 20",
		"15 35 | 40 20 25 15 35 | 20 | 40 10 5 35 45 | 20",
		"0 | 0 | 20", "0 | 200 |", "0 | 0 |",
	})
	checkShown(t, b, "at 20 weight 50", []string{"0 | 200 |"}, []string{
		"0 | 0 |", "0 | 200", "0 | | 200", "0 | 200 | |", "0 | 200 | 20", "0 | 151 |", "0 | 200 0 |", "0 | -1 |", "0 | 1000000000000 |", "0 0 | 200 |", "1 | 200 |",
		"0 | 0 | 20", "0 | 0 | 20 15", "0 0 0 | 200 |",
	})
	cut := told(t, seasonC(t), "0 1 5 report 5 found 7 ab? oil 40 60 3", "0 2 9 report 9 divided 50 2", "0 3 10 report 10 weighed 100 40 40", "0 4 11 report 11 weighed 101 30 30")
	asked(t, cut, "at 10 weight 50", "1 41 60")
	asked(t, cut, "at 11 weight 50", "0")
	checkShown(t, cut, "at 11 weight 101", []string{"0 | 0 | 10"}, []string{"0 | 50 | 10", "0 | 0 |", "0 | | 10", "0 | 0 | 10 10", "0 | 0 0 | 10"})
}

// P9.1, I9: weights of packages.
func TestPackages(t *testing.T) {
	b := told(t, seasonC(t), "0 1 0 paper package 1 1 0 ab? wool 100 200 2 7", "0 2 0 paper package 1 2 0 x1 chests 50 90 1 8", "0 3 0 paper package 1 3 2 ?? silver 10 20 1 8",
		"0 4 0 paper package 1 4 2 zz9 silver 5 60 1 9", "0 5 0 paper total 1 2 2 30 40", "0 6 3 paper total 1 0 3 200 260", "0 7 5 paper total 1 0 2 200 260",
		"0 8 6 paper package 1 2 0 x1 chests 10 20 1 8", "0 9 7 paper package 2 2 7 x1 chests 10 20 1 8")
	asked(t, b, "at 0 package 1 3", "1 10 20")
	asked(t, b, "at 0 package 1 4", "1 10 30")
	asked(t, b, "at 0 package 1 2", "1 50 90")
	asked(t, b, "at 3 package 1 1", "1 100 200")
	a := asked(t, b, "at 5 package 1 1", "1 110 200")
	if !slices.Equal(a.Proof[1], []int{10, 35}) || !slices.Equal(a.Proof[3], []int{5}) {
		t.Errorf("what it rests on: %v", a.Proof)
	}
	asked(t, b, "at 6 package 1 1", "0")
	checkShown(t, b, "at 5 package 1 1", []string{
		"1 110 200 | 110 90 10 20 | 10 35 | 200 60 20 20 | 5",
		"1 110 200 | 110 90 10 20 | 5 10 15 20 25 35 | 200 50 20 20 | 5 10 35",
	}, []string{
		"1 110 200 | 110 90 10 20 | 10 | 200 60 20 20 | 5",
		"1 110 200 | 110 90 10 20 | 10 30 | 200 60 20 20 | 5", // 30 is no total of the manifest
		"1 110 200 | 110 90 10 20 | 35 10 | 200 60 20 20 | 5",
		"1 110 200 | 111 90 10 20 | 10 35 | 200 60 20 20 | 5",
		"1 111 200 | 111 90 10 20 | 10 35 | 200 60 20 20 | 5",
		"1 110 200 | 90 110 10 20 | 10 35 | 200 60 20 20 | 5",
		"1 110 200 | 110 90 10 | 10 35 | 200 60 20 20 | 5",
		"1 110 200 | 110 90 10 20 20 | 10 35 | 200 60 20 20 | 5",
		"1 110 200 | | 10 35 | | 5",
		"1 110 200 | 110 | 10 35 | 200 | 5",
		"1 110 199 | 110 90 10 20 | 10 35 | 199 60 20 20 | 5",
		"1 110 200 | 200 60 20 20 | 5 | 110 90 10 20 | 10 35",
		"1 110 200 | 110 90 10 20 | 10 35 | 200 60 20 20",
		"1 110 200 | 110 90 10 20 | 10 35 | 200 60 20 20 | 5 |",
		"1 110 | 110 90 10 20 | 10 35 | 200 60 20 20 | 5",
		"0 | 10 35", "2 110 200 | 110 90 10 20 | 10 35 | 200 60 20 20 | 5",
	})
	checkShown(t, b, "at 6 package 1 3", []string{"0 | 25 40", "0 | 5 25 40"}, []string{"0 | 40", "0 | 40 25", "0 | 10 25", "0", "0 |", "0 | 25 40 |", "0 0 | 25 40", "1 | 25 40"})
}

// The season of the examples of layer 2, with a second loss, and the winds there.
func seaBooks(t testing.TB) api.Books {
	c := seasonOf(t, "sea 5 2\nheights 4 4 9 4 4\ntide 1 2\ntide 0 5\ntide -1 2\ntide 0 0\nloss 1 1 1 2 2 0 0\nloss 4 0 0 1 1 2 3\n")
	return told(t, c, "0 1 0 wind wind 0 9 0 0 0 1", "0 2 3 wind wind 2 3 0 1 1 1")
}

// P9.1, I9: where a package can be.
func TestPlaces(t *testing.T) {
	b := seaBooks(t)
	asked(t, b, "at 0 place 1 1 2 0 4", "1")
	asked(t, b, "at 0 place 1 1 3 0 4", "0")
	asked(t, b, "at 3 place 1 1 3 0 4", "1")
	asked(t, b, "at 0 place 1 2 2 1 1", "0")
	asked(t, b, "at 0 place 1 1 2 1 1", "1")
	asked(t, b, "at 0 place 1 1 1 2 0", "1")
	asked(t, b, "at 0 place 1 1 4 0 9", "0")
	asked(t, b, "at 0 place 1 1 4 0 200", "1")
	asked(t, b, "at 0 place 1 1 1 1 200", "1")
	asked(t, b, "at 3 place 4 1 0 1 2", "1")
	asked(t, b, "at 3 place 4 1 0 1 3", "1")
	checkShown(t, b, "at 0 place 1 1 2 0 4", []string{"1 | 0 | 1 2 2 2 2 | 2 1 0 0 0"}, []string{
		"1 | 0 | 1 2 2 2 2 | 2 2 1 0 0",
		"1 | 0 | 1 2 2 2 2 | 2 1 0 0", "1 | 0 | 1 2 2 2 | 2 1 0 0 0", "1 | 1 | 2 2 2 2 | 1 0 0 0", "1 | | 1 2 2 2 2 | 2 1 0 0 0", "1 | 0 0 | 1 2 2 2 2 | 2 1 0 0 0",
		"1 | 0 | 1 2 2 2 2 | 2 1 0 0 0 |", "1 1 | 0 | 1 2 2 2 2 | 2 1 0 0 0", "1 | 0 | 1 2 2 2 1 | 2 1 0 0 0", "1 | 0 | 1 2 2 2 2 | 2 1 0 0 1", "1 | 0 | 1 2 2 2 2",
		"1 | 0 | |", "1 | -1 | 1 2 2 2 2 | 2 1 0 0 0", "0 | 0 | 1 2 2 2 2 | 2 1 0 0 0", "1", "1 | 1000000000000 | |", "1 | -1 | |",
		"1 | 0 | 1 2 2 2 2 | 2 1 0 0 0 0", "1 | 0 | 1 2 2 2 2 2 | 2 1 0 0 0",
	})
	// The sets of the places where it can be at the hours 0 to 2, as known at 0: (1, 2); (2, 1), (2, 2); (2, 0), (2, 1), (2, 2).
	checkShown(t, b, "at 0 place 1 1 1 0 2", []string{"0 | 9 | 15 16 | 14 15 16", "0 | 9 | 15 16 | 14 15 16 21", "0 | 8 9 | 14 15 16 | 14 15 16"}, []string{
		"0 | 9 | 15 16 | 14 15", "0 | 9 | 15 16 | 7 14 15 16", "0 | 9 | 16 15 | 14 15 16", "0 | 9 | 15 16", "0 | 9 | 15 16 | 14 15 16 |", "0 | | 15 16 | 14 15 16",
		"0 | 9 | 15 16 | 14 15 16 17", "0 | 9 | 15 16 | 14 15 16 35", "0 | -1 9 | 15 16 | 14 15 16", "0 | 9 | 15 16 | 14 15 16 1000000000000", "0 0 | 9 | 15 16 | 14 15 16",
		"0", "0 |", "1 | 9 | 15 16 | 14 15 16",
	})
}

// P9.1, I9: assignments, and what a find may be.
func TestAssignments(t *testing.T) {
	b := told(t, seasonC(t), "0 1 0 paper package 1 1 0 ab oil 40 60 1 7", "0 2 0 paper package 1 2 0 a? oil 5 9 1 8", "0 3 0 paper package 1 3 0 ?b oil 5 9 1 8",
		"1 1 3 report 3 found 1 a? oil 1 2 4", "1 2 4 report 4 found 1 ac oil 1 2 4", "1 3 5 report 5 found 1 qq oil 1 2 4", "1 4 6 report 6 found 1 ac oil 1 2 4")
	// The finds 60, 110, 160, 210; 60 fits all slots, 110 the second one, 160 none, 210 the second one.
	asked(t, b, "at 2 assign", "1")
	asked(t, b, "at 5 assign", "1")
	asked(t, b, "at 6 assign", "0")
	asked(t, b, "at 5 may 60 1 1", "1")
	asked(t, b, "at 5 may 60 1 2", "0")
	asked(t, b, "at 3 may 60 1 2", "1")
	asked(t, b, "at 5 may 60 1 3", "1")
	asked(t, b, "at 5 may 110 1 1", "0")
	asked(t, b, "at 5 may 160 1 1", "0")
	asked(t, b, "at 6 may 60 1 1", "2")
	asked(t, b, "at 6 may 160 1 1", "2")
	checkShown(t, b, "at 5 assign", []string{"1 | 0 1 -1", "1 | 2 1 -1"}, []string{"1 | 1 1 -1", "1 | 0 1 0", "1 | 0 1", "1 |", "1", "1 | 0 1 -1 |", "1 1 | 0 1 -1", "0 | 0 1", "2 | 0 1 -1", "0 |"})
	checkShown(t, b, "at 6 assign", []string{"0 | 1 3"}, []string{"0 | 3 1", "0 | 0 1 3", "0 | 1 2 3", "0 | 1", "0", "0 | 1 3 |", "1 | 0 1 -1 1", "2 | 1 3", "0 1 | 1 3"})
	checkShown(t, b, "at 2 assign", []string{"1 |"}, []string{"1", "1 | 0", "0 |"})
	checkShown(t, b, "at 5 may 60 1 3", []string{"1 | 2 1 -1"}, []string{"1 | 0 1 -1", "1 | 2 1 0", "1 | 2 1", "1", "1 | 2 1 -1 |", "0 | 2 1 -1", "0 | | 2 1 -1", "0 | 1 | 2 1 -1", "2 | 2 1 -1", "2 | 0 1"})
	checkShown(t, b, "at 5 may 60 1 2", []string{"0 | 1 | 0 1 -1", "0 | 1 | 2 1 -1"}, []string{"0 | 1", "0 | | 0 1 -1", "0 | 1 | 1 1 -1", "0 | 0 | 0 1 -1", "0 | 1 2 | 0 1 -1", "0 | 0 1 -1 | 1", "0 | 1 | 0 1 -1 |", "1 | 1 1 -1", "3 | 1 | 0 1 -1"})
	checkShown(t, b, "at 5 may 160 1 2", []string{"0 | | 0 1 -1"}, []string{"0 | 1 | 0 1 -1", "1 | 0 1 -1", "0 |", "0"})
	checkShown(t, b, "at 6 may 60 1 1", []string{"2 | 1 3"}, []string{"2", "2 | 1", "2 | 1 3 |", "0 | 1 3", "1 | 1 3", "0 | 1 3 | 0 1 -1 1", "2 2 | 1 3"})
}

// P9.1, I9: titles, what is sure, and what is due.
func TestShares(t *testing.T) {
	lines := append(slices.Clone(mixedLines[:9]), "1 4 7 report 7 joined 60 160", "0 7 10 rate rate 0 all 1 5 0 0", "0 8 20 sale 20 sale 60 100 0 0 0", "0 9 20 sale 20 sale 210 100 0 0 0")
	b := told(t, seasonC(t), lines...)
	asked(t, b, "at 6 title 1 2 20", "7 1 6 8 1 2 20 1 3")
	asked(t, b, "at 6 title 1 2 10000007", "0 1 1")
	checkShown(t, b, "at 6 title 1 2 20", []string{"7 1 6 8 1 2 20 1 3"}, []string{"7 1 6 8 1 2", "7 1 6 8 1 2 20 1 3 |", "1 7 1 6 8 1 2 20 1 3", "", "8 1 2 7 1 6 20 1 3", "7 2 12 8 1 2 20 1 3", "7 1 6 8 1 2 20 1 3 0"})
	// The finds are 60, 110 and 160, with the slots 0 and 1; 2; none.
	asked(t, b, "at 20 sure 60 20", "1 7 1 6 20 1 3")
	asked(t, b, "at 20 sure 160 20", "1")
	asked(t, b, "at 20 sure 160 9000", "1 0 1 1")
	asked(t, b, "at 20 sure 210 20", "1")
	checkShown(t, b, "at 20 sure 60 20", []string{
		"1 7 1 6 20 1 3 | 0 2 -1 | 1 0 2 -1 | 1 1 2 -1", "1 7 1 6 20 1 3 | 1 2 -1 | 1 0 2 -1 | 1 1 2 -1",
	}, []string{
		"1 7 1 6 20 1 3 | 0 2 -1 | 1 0 2 -1", "1 7 1 6 20 1 3 | 0 2 -1 | 1 0 2 -1 | 1 1 2 -1 |", "1 7 1 6 20 1 3 | 0 2 -1 | 1 1 2 -1 | 1 0 2 -1",
		"1 7 1 2 20 1 2 | 0 2 -1 | 1 0 2 -1 | 0", "1 7 1 6 20 1 3 | 0 2 -1 | 1 0 2 -1 | 0", "1 7 1 2 20 1 2 | 0 2 -1 | 1 0 2 -1 | 1 1 2 -1", "1 7 1 6 20 1 3 | 0 2 0 | 1 0 2 -1 | 1 1 2 -1",
		"1 7 1 6 | 0 2 -1 | 1 0 2 -1 | 1 1 2 -1", "1 | 0 2 -1 | 1 0 2 -1 | 1 1 2 -1", "0 | 0 2 -1 | 1 0 2 -1 | 1 1 2 -1", "1 7 1 6 20 1 3", "1 7 1 6 20 1 3 | 0 2 -1 | | 1 1 2 -1",
		"1 7 1 6 20 1 3 | 0 2 -1 | 2 0 2 -1 | 1 1 2 -1", "1 7 1 6 20 1 3 | 0 2 -1 | 0 2 -1 | 1 2 -1", "0 |", "0 | 0", "2 |",
		"1 7 1 6 8 1 2 20 1 3 | 0 2 -1 | 2 | 1 1 2 -1", "1 7 1 6 8 1 2 20 1 3 | 0 2 -1 | 2 0 2 -1 | 1 1 2 -1", "1 7 1 6 8 1 2 20 1 3 | 0 2 -1 | -1 | 1 1 2 -1",
	})
	checkShown(t, b, "at 20 sure 160 9000", []string{"1 0 1 1 | 0 2 -1"}, []string{"1 0 1 1 | 0 2 -1 | 0", "1 | 0 2 -1", "1 0 1 1"})
	asked(t, b, "at 20 due 60 20", "1 4 20 7 13 20 27")
	asked(t, b, "at 20 due 210 20", "1 4 10 5 10")
	checkShown(t, b, "at 20 due 60 20", []string{"1 4 20 7 13 20 27 | 0 2 -1 | 1 0 2 -1 | 1 1 2 -1"}, []string{
		"1 4 20 7 13 20 26 | 0 2 -1 | 1 0 2 -1 | 1 1 2 -1", "1 4 20 7 40 20 40 | 0 2 -1 | 1 0 2 -1 | 0", "1 4 20 | 0 2 -1 | 1 0 2 -1 | 1 1 2 -1", "0 4 20 | 0 2 -1 | 1 0 2 -1 | 1 1 2 -1", "0 4 20 |",
		"1 7 13 20 27 4 20 | 0 2 -1 | 1 0 2 -1 | 1 1 2 -1", "1 4 20 7 13 20 27", "1 4 20 7 13 20 27 | 0 2 -1 | 1 0 2 -1", "4 20 7 13 20 27 | 0 2 -1 | 1 0 2 -1 | 1 1 2 -1",
	})
	// No assignment: the finds 110 and 220 need the one piece of the package 3.
	none := entered(t, b, "2 4 21 report 21 found 0 zz oil 1 2 5")
	asked(t, none, "at 21 sure 60 20", "0")
	asked(t, none, "at 21 due 60 20", "0 4 20")
	asked(t, none, "at 20 due 60 20", "1 4 20 7 13 20 27")
	checkShown(t, none, "at 21 sure 60 20", []string{"0 | 1 3"}, []string{"0", "0 |", "0 | 3 1", "0 | 1 3 |", "0 | 0 1 3", "1 | 1 3", "0 7 1 6 | 1 3", "2 | 1 3"})
	checkShown(t, none, "at 21 due 60 20", []string{"0 4 20 | 1 3"}, []string{"0 | 1 3", "0 4 21 | 1 3", "0 4 20", "0 4 20 | 1", "0 4 20 | 1 3 |", "1 4 20 | 1 3", "0 4 20 7 13 20 27 | 1 3", "2 4 20 | 1 3", "4 20 | 1 3"})
	// A denial among the pairs: another find takes the package 1.
	taken := entered(t, b, "2 4 21 report 21 found 0 ab oil 10 20 5", "2 5 22 paper package 1 2 0 a? oil 5 9 1 8")
	asked(t, taken, "at 22 sure 220 20", "1 7 1 2 20 1 2")
	asked(t, taken, "at 22 sure 60 20", "1 7 1 6 8 1 2 20 1 3")
	checkShown(t, taken, "at 22 sure 60 20", []string{"1 7 1 6 8 1 2 20 1 3 | 1 2 -1 0 | 0 3 | 1 1 2 -1 0"}, []string{
		"1 7 1 6 8 1 2 20 1 3 | 1 2 -1 0 | 0 1 | 1 1 2 -1 0", "1 7 1 6 8 1 2 20 1 3 | 1 2 -1 0 | 0 | 1 1 2 -1 0", "1 7 1 6 20 1 3 | 1 2 -1 0 | 1 0 2 -1 1 | 1 1 2 -1 0",
	})
	// What is not in range is not sure, and Ask and Check agree on this.
	asked(t, boundless(t), "at 20 sure 60 20", "1")
	asked(t, boundless(t), "at 20 due 60 20", "1 4 20")
	checkShown(t, boundless(t), "at 20 sure 60 20", nil, []string{"1 7 504 1009 9 506 1013 10 1 2018 11 1 2026 | 0 0 | 1 0 0"})
}

// P9.1, I9: the errors of what is asked, and their order.
func TestAskErrors(t *testing.T) {
	tree := entered(t, booksB(t), "2 1 20 paper package 1 9 8 ab oil 1 2 1 7")
	sea := seaBooks(t)
	b := booksB(t)
	large := addFinds(manySlots(t, 201), 1)
	for _, c := range []struct {
		what, question string
		b              api.Books
		want           api.Errno
	}{
		{"no parcel", "at 20 weight 70", b, api.ErrParcel},
		{"the parcel 0", "at 20 weight 0", b, api.ErrParcel},
		{"a parcel that is not known", "at 4 weight 60", b, api.ErrParcel},
		{"the loss 0", "at 20 package 0 1", b, api.ErrArg},
		{"the loss 21", "at 20 package 21 1", tree, api.ErrArg},
		{"another loss", "at 20 package 2 1", tree, api.ErrNone},
		{"no package", "at 20 package 1 8", tree, api.ErrNone},
		{"the package 0", "at 20 package 1 0", b, api.ErrNone},
		{"no tree", "at 20 package 1 1", tree, api.ErrTree},
		{"a loss that the season does not have", "at 0 place 2 3 9 9 1000001", sea, api.ErrNone},
		{"the loss 0", "at 0 place 0 1 1 1 1", sea, api.ErrNone},
		{"the float 0", "at 0 place 1 0 9 9 1000001", sea, api.ErrArg},
		{"the float 3", "at 0 place 1 3 1 1 1", sea, api.ErrArg},
		{"the float 257", "at 0 place 1 257 1 1 1", sea, api.ErrArg},
		{"the float 258", "at 0 place 1 258 1 1 1", sea, api.ErrArg},
		{"a cell too far, and no hour", "at 0 place 1 1 5 1 1000001", sea, api.ErrSea},
		{"a band too far, and no hour", "at 0 place 1 1 1 3 1000001", sea, api.ErrSea},
		{"a cell far away", "at 0 place 1 1 10000007 0 1", sea, api.ErrSea},
		{"no hour", "at 0 place 1 1 1 1 1000001", sea, api.ErrArg},
		{"too late", "at 0 place 1 1 1 1 201", sea, api.ErrFar},
		{"the last hour", "at 0 place 1 1 1 1 200", sea, api.OK},
		{"too early", "at 0 place 4 1 1 1 1", sea, api.ErrFar},
		{"201 slots", "at 20 assign", large, api.ErrLimit},
		{"201 slots", "at 20 may 70 9 9", large, api.ErrLimit},
		{"no slot", "at 20 may 60 1 3", b, api.ErrNone},
		{"no find", "at 20 may 70 1 1", b, api.ErrNone},
		{"a parcel that is no find", "at 20 may 70 1 1", entered(t, b, "2 1 20 report 20 divided 60 2"), api.ErrNone},
		{"neither", "at 20 may 0 0 0", b, api.ErrNone},
		{"201 slots", "at 20 title 9 9 9", large, api.ErrLimit},
		{"no slot", "at 20 title 2 1 9", b, api.ErrNone},
		{"titles that are not in range", "at 20 title 1 1 8788", boundless(t), api.ErrLimit},
		{"201 slots, and no parcel", "at 20 sure 70 9", large, api.ErrParcel},
		{"201 slots", "at 1000 sure 10 9", large, api.ErrLimit},
		{"titles that are not in range", "at 20 sure 60 8788", boundless(t), api.ErrLimit},
		{"no parcel, which was not sold either", "at 20 due 70 9", b, api.ErrParcel},
		{"not sold, and 201 slots", "at 1000 due 10 9", large, api.ErrSold},
		{"not sold", "at 20 due 110 20", b, api.ErrSold},
		{"no rate", "at 20 due 60 20", entered(t, b, "2 1 20 rate void 15"), api.ErrRate},
		{"titles that are not in range", "at 20 due 60 8788", boundless(t), api.ErrLimit},
	} {
		q := question(t, c.question)
		a, e := inquiry.Ask(c.b, q)
		if e != c.want || e != api.OK && !alike(a, api.Answer{}) {
			t.Errorf("Ask %q, %s: %+v, error %d, want %d", c.question, c.what, a, e, c.want)
		}
		if is, e := inquiry.Check(c.b, q, a); is != (c.want == api.OK) || e != c.want {
			t.Errorf("Check %q, %s: %v, error %d, want %d", c.question, c.what, is, e, c.want)
		}
	}
	for want, b := range wrongBooks(t) {
		if a, e := inquiry.Ask(b, api.Question{}); !alike(a, api.Answer{}) || e != want {
			t.Errorf("Ask of wrong books: %+v, error %d, want %d", a, e, want)
		}
		if is, e := inquiry.Check(b, api.Question{}, api.Answer{}); is || e != want {
			t.Errorf("Check of wrong books: %v, error %d, want %d", is, e, want)
		}
	}
}

// randomQuestion returns a question that can be asked of a tale, most of the time.
func (r *teller) question(c api.Season) api.Question {
	loss := c.Losses[r.IntN(len(c.Losses))].Id
	pack, parcel, hour := 1+r.IntN(4), r.parcel(), r.hour+r.IntN(2)*8770
	q := api.Question{Kind: uint8(1 + r.IntN(8)), Known: r.hour - r.IntN(2)*r.IntN(r.hour+1)}
	if q.Known > api.MaxHour {
		q.Known = api.MaxHour
	}
	q.Args = [][]int{
		1: {parcel}, 2: {loss, pack}, 3: {loss, 1 + r.IntN(2), r.IntN(c.Sea.Cells), r.IntN(c.Sea.Bands + 1), r.IntN(50)}, 4: {},
		5: {parcel, loss, pack}, 6: {loss, pack, hour}, 7: {parcel, hour}, 8: {parcel, hour},
	}[q.Kind]
	return q
}

// mutated returns an answer that differs from another one in some place.
func mutated(r *rand.Rand, a api.Answer) api.Answer {
	b := api.Answer{Values: slices.Clone(a.Values)}
	for _, l := range a.Proof {
		b.Proof = append(b.Proof, slices.Clone(l))
	}
	change := func(l []int) []int {
		at := r.IntN(len(l) + 1)
		switch r.IntN(4) {
		case 0:
			return slices.Insert(l, at, r.IntN(3)-1)
		case 1:
			return slices.Delete(l, min(at, max(len(l)-1, 0)), min(at+1, len(l)))
		}
		if at < len(l) {
			l[at] += []int{-1, 1, 7, -7, 1000, math.MinInt, math.MaxInt}[r.IntN(7)]
		}
		return l
	}
	i := r.IntN(len(b.Proof) + 1)
	switch {
	case r.IntN(2) == 0:
		b.Values = change(b.Values)
	case i == len(b.Proof):
		b.Proof = append(b.Proof, nil)
	case r.IntN(4) == 0:
		b.Proof = slices.Delete(b.Proof, i, i+1)
	default:
		b.Proof[i] = change(b.Proof[i])
	}
	return b
}

// P9.2: Check accepts what Ask returns, and of the others only answers with the same Values; Audit accepts what
// Transcript returns.
func TestAnswersAreShown(t *testing.T) {
	t.Parallel()
	values, shown := map[[2]int]int{}, 0
	for seed := range uint64(120) {
		c, r := randomTale(t, 4000+seed, 20+int(seed%60))
		b, _, _ := inquiry.Told(c, 3, r.book())
		var lines []string
		for range 40 {
			q := r.question(c)
			a, e := inquiry.Ask(b, q)
			if e != api.OK {
				continue
			}
			s, _ := inquiry.PrintQuestion(q)
			lines = append(lines, s)
			if is, e := inquiry.Check(b, q, a); !is || e != api.OK {
				t.Errorf("seed %d, %q: %+v, %v, error %d", seed, s, a, is, e)
			}
			if q.Kind != api.AskTitle {
				values[[2]int{int(q.Kind), a.Values[0]}]++
			}
			for range 10 {
				other := mutated(r.Rand, a)
				is, e := inquiry.Check(b, q, other)
				if is && !slices.Equal(other.Values, a.Values) || e != api.OK {
					t.Errorf("seed %d, %q: %+v is shown by %+v, error %d", seed, s, a, other, e)
				}
				if is && !alike(other, a) {
					shown++
				}
			}
		}
		answers, errors, e := inquiry.Transcript(b, lines)
		if len(answers) != len(lines) || len(errors) != len(lines) || e != api.OK {
			t.Errorf("seed %d: %d lines of %d, errors %v, %d", seed, len(answers), len(lines), errors, e)
		}
		if i, e := inquiry.Audit(b, answers); i != 0 || e != api.OK {
			t.Errorf("seed %d: line %d, error %d", seed, i, e)
		}
	}
	for _, k := range [][2]int{{1, 0}, {1, 1}, {2, 0}, {2, 1}, {3, 0}, {3, 1}, {4, 0}, {4, 1}, {5, 0}, {5, 1}, {5, 2}, {7, 0}, {7, 1}, {8, 0}, {8, 1}} {
		if values[k] < 3 {
			t.Errorf("the kind %d with the value %d: only %d times", k[0], k[1], values[k])
		}
	}
	if shown < 10 {
		t.Errorf("only %d other proofs", shown)
	}
}

// P9.6: no answer, but to a question with a later Known, changes when a record is entered that is known later.
func TestAnswersStay(t *testing.T) {
	same := 0
	for seed := range uint64(100) {
		c, r := randomTale(t, 5000+seed, 20+int(seed%60))
		ordered := modelTell(c, r.book())
		last := ordered[len(ordered)-1]
		before := ordered[len(ordered)*2/3]
		known := -1
		for _, x := range before.Papers {
			known = max(known, x.Known)
		}
		for _, x := range before.Reports {
			known = max(known, x.Known)
		}
		for range 30 {
			q := r.question(c)
			q.Known = max(known-r.IntN(20), 0)
			if slices.ContainsFunc(lateKnown(before, last), func(k int) bool { return k <= q.Known }) {
				continue
			}
			a, e := inquiry.Ask(before, q)
			other, f := inquiry.Ask(last, q)
			if !alike(a, other) || e != f {
				t.Errorf("seed %d, %+v: %+v, error %d, and then %+v, error %d", seed, q, a, e, other, f)
			}
			if is, g := inquiry.Check(last, q, a); is != (e == api.OK) || g != e {
				t.Errorf("seed %d, %+v: %v, error %d, want %d", seed, q, is, g, e)
			}
			if e == api.OK {
				same++
			}
		}
	}
	if same < 300 {
		t.Errorf("only %d answers", same)
	}
}

// lateKnown returns from when what is entered into books behind others is known.
func lateKnown(before, last api.Books) []int {
	var out []int
	for _, x := range last.Papers[len(before.Papers):] {
		out = append(out, x.Known)
	}
	for _, x := range last.Winds[len(before.Winds):] {
		out = append(out, x.Known)
	}
	for _, x := range last.Reports[len(before.Reports):] {
		out = append(out, x.Known)
	}
	for _, x := range last.Deeds[len(before.Deeds):] {
		out = append(out, x.Known)
	}
	for _, x := range last.Rates[len(before.Rates):] {
		out = append(out, x.Known)
	}
	for _, x := range last.Sales[len(before.Sales):] {
		out = append(out, x.Known)
	}
	return out
}
