package inquiry_test

import (
	"math"
	"reflect"
	"slices"
	"testing"

	"lagan/api"
	"lagan/inquiry"
)

// spoil sets all numbers, strings and elements that a value has to something else.
func spoil(v reflect.Value) {
	switch v.Kind() {
	case reflect.Slice:
		for i := range v.Len() {
			spoil(v.Index(i))
		}
	case reflect.Struct, reflect.Pointer:
		for i := range reflect.Indirect(v).NumField() {
			spoil(reflect.Indirect(v).Field(i))
		}
	case reflect.Int:
		v.SetInt(-99)
	case reflect.Uint8:
		v.SetUint(99)
	case reflect.String:
		v.SetString("spoilt")
	}
}

func spoilt[T any](x T) { spoil(reflect.ValueOf(&x).Elem()) }

// fullBooks returns books with something in each list, and in each list of a list.
func fullBooks(t testing.TB) api.Books {
	c := seasonOf(t, sourceC+"float cork high\n")
	return told(t, c, append(slices.Clone(exampleLines), "2 1 20 wind wind 0 9 0 0 0 1", "2 2 21 deed 0 paid 1 1 7 8 1 2", "2 3 22 report 22 joined 60 110", "0 5 23 posting sale 60 100 20 20")...)
}

// R3: results share no memory with arguments, and arguments are not changed.
func TestMemory(t *testing.T) {
	b, kept := fullBooks(t), fullBooks(t)
	entered, _ := inquiry.Enter(b, recordOf(t, "2 4 24 report 24 weighed 170 30 40"))
	spoilt(entered)
	board, _ := inquiry.Board(b, 30)
	spoilt(board)
	for _, ask := range []func(b api.Books, known, parcel, hour int) ([]api.Title, api.Errno){inquiry.Sure, inquiry.Perhaps} {
		l, _ := ask(b, 30, 60, 30)
		spoilt(l)
	}
	l, _ := inquiry.TitlesOf(b, 30, 1, 1, 30)
	spoilt(l)
	all, _ := inquiry.Dues(b, 30, 30)
	spoilt(all)
	some, _ := inquiry.DuesOf(b, 30, 60, 30)
	spoilt(some)
	for _, s := range []string{"at 30 weight 60", "at 30 package 1 1", "at 30 place 1 2 0 0 0", "at 30 place 1 2 0 1 0", "at 30 assign", "at 30 may 60 1 1", "at 30 may 60 1 2", "at 30 title 1 1 30", "at 30 sure 170 30", "at 30 due 60 30"} {
		q := question(t, s)
		a, e := inquiry.Ask(b, q)
		keptAnswer, _ := inquiry.Ask(b, q)
		if is, f := inquiry.Check(b, q, a); !is || !alike(a, keptAnswer) || e != api.OK || f != api.OK {
			t.Errorf("%q: %+v, %v, errors %d, %d", s, a, is, e, f)
		}
		// No two lists share memory, also not at their ends.
		for i := range a.Proof {
			a.Proof[i] = append(a.Proof[i], 7)
			a.Proof[i][0] = -5
		}
		for i, l := range a.Proof {
			if n := len(keptAnswer.Proof[i]); len(l) != n+1 || n > 0 && !slices.Equal(l[1:n], keptAnswer.Proof[i][1:]) || l[n] != 7 && n > 0 {
				t.Errorf("%q: %v, but it was %v", s, a.Proof, keptAnswer.Proof)
			}
		}
		spoilt(a)
		spoilt(q)
	}
	if !alike(b, kept) {
		t.Errorf("the books: %+v, want %+v", b, kept)
	}
	c, keptSeason := b.Season, kept.Season
	records := byRefs(recordsOf(t, append(slices.Clone(exampleLines), "2 1 22 report 22 joined 60 110")...))
	keptRecords := slices.Clone(records)
	first, errors, _ := inquiry.Told(c, 3, records)
	causes, _ := inquiry.Causes(c, 3, records, 30, 30)
	spoilt(first)
	spoilt(errors)
	spoilt(causes)
	if !alike(c, keptSeason) || !slices.Equal(records, keptRecords) {
		t.Errorf("the season %+v, the records %+v", c, records)
	}
	if again, _, e := inquiry.Told(c, 3, records); inquiry.CheckBooks(again) != api.OK || e != api.OK {
		t.Errorf("told again: %+v, error %d", again, e)
	}
	nobody, _, _ := inquiry.Told(c, 3, nil)
	spoilt(nobody)
	if !alike(c, keptSeason) {
		t.Errorf("the season %+v", c)
	}
	questions := []string{"at 30 assign", "at 30 weight 60"}
	lines, _, _ := inquiry.Transcript(b, questions)
	keptLines := slices.Clone(lines)
	inquiry.Audit(b, lines)
	if !slices.Equal(lines, keptLines) || !slices.Equal(questions, []string{"at 30 assign", "at 30 weight 60"}) {
		t.Errorf("%q, %q", questions, lines)
	}
}

// R3: nil is as good as empty.
func TestEmpty(t *testing.T) {
	empty := api.Books{Season: seasonC(t), Papers: []api.Paper{}, Winds: []api.Wind{}, Reports: []api.Report{}, Deeds: []api.Deed{}, Rates: []api.Rate{}, Sales: []api.Sale{}, Postings: []api.Posting{}}
	empty.Season.Floats = []api.Float{}
	for _, b := range []api.Books{empty, {Season: seasonC(t)}} {
		if board, e := inquiry.Board(b, 20); !alike(board, api.Board{}) || e != api.OK {
			t.Errorf("Board: %+v, error %d", board, e)
		}
		if l, e := inquiry.Dues(b, 20, 20); len(l) > 0 || e != api.OK {
			t.Errorf("Dues: %v, error %d", l, e)
		}
		if a, e := inquiry.Ask(b, api.Question{Kind: api.AskAssign, Args: []int{}}); !alike(a, answer([]int{1}, nil)) || e != api.OK {
			t.Errorf("Ask: %+v, error %d", a, e)
		}
		if is, e := inquiry.Check(b, api.Question{Kind: api.AskAssign}, answer([]int{1}, []int{})); !is || e != api.OK {
			t.Errorf("Check: %v, error %d", is, e)
		}
	}
	b := booksB(t)
	if is, e := inquiry.Check(b, question(t, "at 20 title 1 1 20"), api.Answer{Values: []int{7, 1, 1}, Proof: [][]int{}}); !is || e != api.OK {
		t.Errorf("Check: %v, error %d", is, e)
	}
}

// R1: any numbers are no more than errors, and wrong answers.
func TestAnyNumbers(t *testing.T) {
	b := fullBooks(t)
	far := []int{math.MinInt, -1, 0, math.MaxInt}
	for _, n := range far {
		for _, m := range far {
			inquiry.Board(b, n)
			inquiry.Deadline(b, 30, n, m)
			inquiry.TitlesOf(b, n, 1, 1, m)
			inquiry.TitlesOf(b, 30, 1, 1, m)
			inquiry.Sure(b, n, 60, m)
			inquiry.Perhaps(b, 30, 60, m)
			inquiry.DuesOf(b, 30, 60, m)
			inquiry.Dues(b, n, m)
			inquiry.Causes(b.Season, n, nil, m, n)
			inquiry.Causes(b.Season, 5, recordsOf(t, exampleLines...), m, n)
			inquiry.Told(b.Season, 3, []api.Record{{Station: n, Number: m, Hour: n, Text: "paper void 5"}})
		}
		for kind := range 256 {
			inquiry.Ask(b, api.Question{Kind: uint8(kind), Known: 30, Args: []int{n}})
		}
		for _, s := range []string{"at 30 weight 60", "at 30 package 1 1", "at 30 place 1 2 0 0 0", "at 30 assign", "at 30 may 60 1 1", "at 30 title 1 1 30", "at 30 sure 170 30", "at 30 due 60 30"} {
			for _, first := range []int{0, 1, 2, n} {
				for count := range 6 {
					for _, l := range [][]int{nil, {n}, {n, n}, {1, n, n}, {0, n}} {
						a := api.Answer{Values: []int{first, n, n}[:1+count%3], Proof: slices.Repeat([][]int{l}, count)}
						if is, e := inquiry.Check(b, question(t, s), a); e != api.OK || is && n < -1 && count > 0 && len(l) > 0 {
							t.Errorf("Check %q of %+v: %v, error %d", s, a, is, e)
						}
					}
				}
			}
		}
		wrong := fullBooks(t)
		wrong.Season.Sea.Cells = n
		wrong.Season.Losses[0].Id = n
		wrong.Reports[0].Parts = []int{n, n}
		wrong.Papers[0].Pack = n
		if e := inquiry.CheckBooks(wrong); e != api.ErrArg {
			t.Errorf("books with %d: error %d", n, e)
		}
		if a, e := inquiry.Ask(wrong, api.Question{Kind: api.AskAssign}); !alike(a, api.Answer{}) || e != api.ErrArg {
			t.Errorf("books with %d: %+v, error %d", n, a, e)
		}
	}
}
