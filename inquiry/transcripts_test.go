package inquiry_test

import (
	"slices"
	"strings"
	"testing"

	"lagan/api"
	"lagan/inquiry"
)

// P9.1, I11: the lines of the questions that are answered, and the error of each question.
func TestTranscript(t *testing.T) {
	b := booksB(t)
	lines, errors, e := inquiry.Transcript(b, []string{
		"at 20 weight 60", "nonsense", "at 20 assign", "at 20 weight 70", "at 20 may 60 1 2", "", "at 4 assign", "at 20 title 1 1 20", "at 20 assign", "at 020 assign", "at 20 due 110 20",
	})
	want := []string{
		"at 20 weight 60 = 1 10 20 | 10 30 | | 20 30 |", "at 20 assign = 1 | 0 0", "at 20 may 60 1 2 = 0 | | 0 0", "at 4 assign = 1 |",
		"at 20 title 1 1 20 = 7 1 1", "at 20 assign = 1 | 0 0",
	}
	wantErrors := []api.Errno{0, api.ErrForm, 0, api.ErrParcel, 0, api.ErrForm, 0, 0, 0, api.ErrForm, api.ErrSold}
	if !slices.Equal(lines, want) || !slices.Equal(errors, wantErrors) || e != api.OK {
		t.Errorf("%q, errors %v, %d", lines, errors, e)
	}
	if i, e := inquiry.Audit(b, lines); i != 0 || e != api.OK {
		t.Errorf("Audit: %d, error %d", i, e)
	}
	if lines, errors, e := inquiry.Transcript(b, nil); len(lines)+len(errors) > 0 || e != api.OK {
		t.Errorf("no questions: %q, errors %v, %d", lines, errors, e)
	}
}

// P9.1, I9 to I11: an answer with more than 400 lists is shown, but cannot be written.
func TestLongAnswers(t *testing.T) {
	for finds, want := range map[int]api.Errno{19: api.OK, 20: api.ErrLimit} {
		b := addFinds(manySlots(t, 21), finds)
		parcel := joined(&b, finds)
		q := api.Question{Kind: api.AskSure, Known: 1000, Args: []int{parcel, 9}}
		a, e := inquiry.Ask(b, q)
		if len(a.Proof) != 1+21*finds || e != api.OK {
			t.Errorf("%d finds: %d lists, error %d", finds, len(a.Proof), e)
		}
		if is, e := inquiry.Check(b, q, a); !is || e != api.OK {
			t.Errorf("%d finds: %v, error %d", finds, is, e)
		}
		s, _ := inquiry.PrintQuestion(q)
		lines, errors, e := inquiry.Transcript(b, []string{s})
		if !slices.Equal(errors, []api.Errno{want}) || (len(lines) == 1) != (want == api.OK) || e != api.OK {
			t.Errorf("%d finds: %d lines, errors %v, %d", finds, len(lines), errors, e)
		}
	}
}

// P9.1, I11: the first line that is not shown, and its error.
func TestAudit(t *testing.T) {
	b := booksB(t)
	good := "at 20 assign = 1 | 0 0"
	for line, want := range map[string]api.Errno{
		good: api.OK,
		"at 20 sure 60 20 = 1 7 1 1 | 0 0 | 1 0 0":    api.OK,
		"at 20 sure 60 20 = 1 7 1 2 | 0 0 | 1 0 0":    api.ErrFalse,
		"at 20 assign = 1 | 1 0":                      api.ErrFalse,
		"at 20 assign = ":                             api.ErrFalse,
		"at 20 assign":                                api.ErrForm,
		"at 20 assign =":                              api.ErrForm,
		"at 20 assign = 1 | 0 0 ":                     api.ErrForm,
		"at 20 assign  = 1 | 0 0":                     api.ErrForm,
		"at 20 assign =  1 | 0 0":                     api.ErrForm,
		"at 20 assign= 1 | 0 0":                       api.ErrForm,
		"at 20 assign = 1 | 0 0\n":                    api.ErrForm,
		"at 20 assign = 1 = 1":                        api.ErrForm,
		"at 20 assign = 1 | 0 00":                     api.ErrForm,
		"at 20 assign = 1 | 0 -2":                     api.ErrForm,
		"at 20 assign = x":                            api.ErrForm,
		"at 20 assigns = 1 | 0 0":                     api.ErrForm,
		"at 1000001 assign = 1 | 0 0":                 api.ErrForm,
		"":                                            api.ErrForm,
		" = ":                                         api.ErrForm,
		" = 1 | 0 0":                                  api.ErrForm,
		"at 20 weight 70 = x":                         api.ErrForm,
		"at 20 weight 70 = 1 | 0 0":                   api.ErrParcel,
		"at 20 title 1 3 20 = 7 1 1":                  api.ErrNone,
		"at 20 due 110 20 = 1 | 0 0":                  api.ErrSold,
		"at 20 package 0 1 = 0":                       api.ErrArg,
		"at 20 place 1 1 0 0 300 = 0":                 api.ErrFar,
		"at 20 weight 60 = 1 10 20 | 10 30 | | 20 30": api.ErrFalse,
		"at 20 assign = 1 " + strings.Repeat("1 ", 1999) + "1": api.ErrForm,
	} {
		index := 1
		if want == api.OK {
			index = 0
		}
		if i, e := inquiry.Audit(b, []string{good, line, good}); i != index || e != want {
			t.Errorf("%.60q: %d, error %d, want %d", line, i, e, want)
		}
	}
	if i, e := inquiry.Audit(b, []string{good, "at 20 sure 60 20 = 1 7 1 2 | 0 0 | 1 0 0"}); i != 1 || e != api.ErrFalse {
		t.Errorf("the example: %d, error %d", i, e)
	}
	if i, e := inquiry.Audit(b, []string{good, good, "at 20 weight 70 = 1", "", good}); i != 2 || e != api.ErrParcel {
		t.Errorf("two that are wrong: %d, error %d", i, e)
	}
	if i, e := inquiry.Audit(b, nil); i != 0 || e != api.OK {
		t.Errorf("no lines: %d, error %d", i, e)
	}
}

// P9.1, I11: at most 400 questions, and 400 lines; wrong books come first.
func TestManyLines(t *testing.T) {
	b := booksB(t)
	for n, want := range map[int]api.Errno{400: api.OK, 401: api.ErrLimit} {
		lines, errors, e := inquiry.Transcript(b, slices.Repeat([]string{"at 20 assign"}, n))
		if e != want || e == api.OK && (len(lines) != n || len(errors) != n) || e != api.OK && len(lines)+len(errors) > 0 {
			t.Errorf("%d questions: %d lines, %d errors, error %d", n, len(lines), len(errors), e)
		}
		if i, e := inquiry.Audit(b, slices.Repeat([]string{"at 20 assign = 1 | 0 0"}, n)); i != 0 || e != want {
			t.Errorf("%d lines: %d, error %d", n, i, e)
		}
	}
	if i, e := inquiry.Audit(b, make([]string, 401)); i != 0 || e != api.ErrLimit {
		t.Errorf("401 empty lines: %d, error %d", i, e)
	}
	for want, b := range wrongBooks(t) {
		if lines, errors, e := inquiry.Transcript(b, make([]string, 401)); len(lines)+len(errors) > 0 || e != want {
			t.Errorf("Transcript of wrong books: %q, errors %v, %d, want %d", lines, errors, e, want)
		}
		if i, e := inquiry.Audit(b, make([]string, 401)); i != 0 || e != want {
			t.Errorf("Audit of wrong books: %d, error %d, want %d", i, e, want)
		}
	}
}

// R4, P9.2: in a transcript each question is answered as it is alone, whatever was asked before.
func TestTranscriptIsAsk(t *testing.T) {
	for seed := range uint64(40) {
		c, r := randomTale(t, 6000+seed, 20+int(seed))
		b, _, _ := inquiry.Told(c, 3, r.book())
		var questions, want []string
		var wantErrors []api.Errno
		for range 60 {
			q := r.question(c)
			s, _ := inquiry.PrintQuestion(q)
			questions = append(questions, s)
			a, e := inquiry.Ask(b, q)
			if e == api.OK {
				text, _ := inquiry.WriteAnswer(a)
				want = append(want, s+" = "+text)
			}
			wantErrors = append(wantErrors, e)
		}
		lines, errors, e := inquiry.Transcript(b, questions)
		if !slices.Equal(lines, want) || !slices.Equal(errors, wantErrors) || e != api.OK {
			t.Errorf("seed %d: %q, errors %v, %d, want %q, %v", seed, lines, errors, e, want, wantErrors)
		}
	}
}
