package inquiry_test

import (
	"math"
	"math/rand/v2"
	"slices"
	"strings"
	"testing"

	"lagan/api"
	"lagan/inquiry"
)

// kindWords are the words of the kinds of questions, and how many Args they have.
var (
	kindWords = []string{"", "weight", "package", "place", "assign", "may", "title", "sure", "due"}
	kindArgs  = []int{0, 1, 2, 5, 0, 3, 3, 2, 2}
)

func question(t testing.TB, s string) api.Question {
	t.Helper()
	q, e := inquiry.ParseQuestion(s)
	if e != api.OK {
		t.Fatalf("ParseQuestion of %q: error %d", s, e)
	}
	return q
}

// P9.1, P9.8, I8: each kind of question, and its string.
func TestQuestions(t *testing.T) {
	for s, want := range map[string]api.Question{
		"at 20 weight 60":             {Kind: 1, Known: 20, Args: []int{60}},
		"at 0 weight 0":               {Kind: 1, Known: 0, Args: []int{0}},
		"at 1000000 weight 10000007":  {Kind: 1, Known: 1000000, Args: []int{10000007}},
		"at 20 package 1 2":           {Kind: 2, Known: 20, Args: []int{1, 2}},
		"at 20 place 1 2 3 4 5":       {Kind: 3, Known: 20, Args: []int{1, 2, 3, 4, 5}},
		"at 20 assign":                {Kind: 4, Known: 20},
		"at 20 may 60 1 2":            {Kind: 5, Known: 20, Args: []int{60, 1, 2}},
		"at 20 title 1 2 9999":        {Kind: 6, Known: 20, Args: []int{1, 2, 9999}},
		"at 20 sure 60 30":            {Kind: 7, Known: 20, Args: []int{60, 30}},
		"at 20 due 60 10000007":       {Kind: 8, Known: 20, Args: []int{60, 10000007}},
		"at 20 place 0 0 0 0 0":       {Kind: 3, Known: 20, Args: []int{0, 0, 0, 0, 0}},
		"at 20 title 10000007 0 0":    {Kind: 6, Known: 20, Args: []int{10000007, 0, 0}},
		"at 7 may 10000007 999 10000": {Kind: 5, Known: 7, Args: []int{10000007, 999, 10000}},
	} {
		if q, e := inquiry.ParseQuestion(s); !alike(q, want) || e != api.OK {
			t.Errorf("ParseQuestion of %q: %+v, error %d", s, q, e)
		}
		if got, e := inquiry.PrintQuestion(want); got != s || e != api.OK {
			t.Errorf("PrintQuestion of %+v: %q, error %d", want, got, e)
		}
	}
}

// P9.8: ParseQuestion inverts PrintQuestion for all questions that are as said.
func TestQuestionsInverted(t *testing.T) {
	r := rand.New(rand.NewPCG(9, 3))
	for range 2000 {
		kind := 1 + r.IntN(8)
		q := api.Question{Kind: uint8(kind), Known: r.IntN(1000001)}
		for range kindArgs[kind] {
			q.Args = append(q.Args, []int{r.IntN(10), r.IntN(10000008)}[r.IntN(2)])
		}
		s, e := inquiry.PrintQuestion(q)
		got, f := inquiry.ParseQuestion(s)
		if e != api.OK || f != api.OK || !alike(got, q) || !strings.HasPrefix(s, "at ") || strings.Split(s, " ")[2] != kindWords[kind] {
			t.Errorf("%+v: %q, %+v, errors %d, %d", q, s, got, e, f)
		}
	}
}

// P9.1, I8: strings that are none of a question.
func TestNoQuestions(t *testing.T) {
	for _, s := range []string{
		"", " ", "at", "at ", "at 20", "at 20 ", "20 assign", "at assign", "at 20 assign ", " at 20 assign", "at  20 assign", "at 20  assign", "At 20 assign",
		"at 20 Assign", "at 20 assigns", "at 20 ask", "at 20 assign 1", "at 20 assign\n", "at 20\tassign", "at 020 assign", "at +20 assign", "at -1 assign", "at -0 assign",
		"at 00 assign", "at 1000001 assign", "at 99999999999999999999 assign", "at x assign", "at 2x assign", "at 0x2 assign", "at 2_0 assign",
		"at 20 weight", "at 20 weight ", "at 20 weight 60 ", "at 20 weight 60 1", "at 20 weight 060", "at 20 weight -1", "at 20 weight +60", "at 20 weight 10000008",
		"at 20 weight  60", "at 20 weight x", "at 20 package 1", "at 20 package 1 2 3", "at 20 place 1 1 1 1", "at 20 place 1 1 1 1 1 1", "at 20 may 60 1", "at 20 may 60 1 1 1",
		"at 20 title 1 1", "at 20 title 1 1 20 1", "at 20 sure 60", "at 20 sure 60 20 1", "at 20 due 60", "at 20 due 60 20 1", "at 20 due 60 20\r", "at 20 due 60 99999999999999999999",
		"assign", "at 20 1", "at 20 | assign", "at 20 assign = 1", "at 20 \u00e4ssign", "at \u0662 assign",
	} {
		if q, e := inquiry.ParseQuestion(s); !alike(q, api.Question{}) || e != api.ErrForm {
			t.Errorf("%q: %+v, error %d", s, q, e)
		}
	}
}

// wrongQuestions are questions that are not as said.
func wrongQuestions() []api.Question {
	out := []api.Question{{}, {Kind: 9}, {Kind: 255, Args: []int{1}}, {Kind: 0, Args: []int{1}}}
	for kind := 1; kind <= 8; kind++ {
		args := slices.Repeat([]int{1}, kindArgs[kind])
		for _, known := range []int{-1, 1000001, math.MinInt, math.MaxInt} {
			out = append(out, api.Question{Kind: uint8(kind), Known: known, Args: args})
		}
		out = append(out, api.Question{Kind: uint8(kind), Known: 20, Args: append(slices.Clone(args), 1)})
		if len(args) > 0 {
			out = append(out, api.Question{Kind: uint8(kind), Known: 20, Args: args[1:]})
		}
		for i := range args {
			for _, n := range []int{-1, 10000008, math.MinInt, math.MaxInt} {
				wrong := slices.Clone(args)
				wrong[i] = n
				out = append(out, api.Question{Kind: uint8(kind), Known: 20, Args: wrong})
			}
		}
	}
	return out
}

// P9.1, I8, I9: questions that are not as said.
func TestWrongQuestions(t *testing.T) {
	b := booksB(t)
	for _, q := range wrongQuestions() {
		if s, e := inquiry.PrintQuestion(q); s != "" || e != api.ErrArg {
			t.Errorf("PrintQuestion of %+v: %q, error %d", q, s, e)
		}
		if a, e := inquiry.Ask(b, q); !alike(a, api.Answer{}) || e != api.ErrArg {
			t.Errorf("Ask of %+v: %+v, error %d", q, a, e)
		}
		if is, e := inquiry.Check(b, q, api.Answer{Values: []int{1}}); is || e != api.ErrArg {
			t.Errorf("Check of %+v: %v, error %d", q, is, e)
		}
	}
}
