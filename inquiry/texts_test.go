package inquiry_test

import (
	"math"
	"math/rand/v2"
	"slices"
	"strings"
	"testing"

	"lagan/api"
	"lagan/inquiry"
)

func answer(values []int, proof ...[]int) api.Answer { return api.Answer{Values: values, Proof: proof} }

// P9.1, P9.8, I10: answers and their strings.
func TestAnswerStrings(t *testing.T) {
	for s, want := range map[string]api.Answer{
		"":                               answer(nil),
		"1":                              answer([]int{1}),
		"-1 0":                           answer([]int{-1, 0}),
		"|":                              answer(nil, nil),
		"| |":                            answer(nil, nil, nil),
		"1 |":                            answer([]int{1}, nil),
		"1 | 0 0":                        answer([]int{1}, []int{0, 0}),
		"0 | | 0 0":                      answer([]int{0}, nil, []int{0, 0}),
		"1 10 20 | 10 30 | | 20 30 |":    answer([]int{1, 10, 20}, []int{10, 30}, nil, []int{20, 30}, nil),
		"| 1000000000000 -1":             answer(nil, []int{1000000000000, -1}),
		"1000000000000 | -1 | -1 0 -1 |": answer([]int{1000000000000}, []int{-1}, []int{-1, 0, -1}, nil),
	} {
		if got, e := inquiry.WriteAnswer(want); got != s || e != api.OK {
			t.Errorf("WriteAnswer of %+v: %q, error %d", want, got, e)
		}
		if a, e := inquiry.ReadAnswer(s); !alike(a, want) || e != api.OK {
			t.Errorf("ReadAnswer of %q: %+v, error %d", s, a, e)
		}
	}
}

// P9.1, I10: strings that are none of an answer.
func TestNoAnswers(t *testing.T) {
	for _, s := range []string{
		" ", "1 ", " 1", "1  2", "1 | ", "1  |", "1 |  2", "|| 1", "1|", "1 |2", "01", "+1", "-0", "-2", "--1", "- 1", "x", "1 x", "1 | x", "1\n", "1\t2", "1 |\r",
		"1000000000001", "| 1000000000001", "99999999999999999999", "1.0", "1e3", "0x1", "1_0", "1 = 2", "\u0661",
		strings.TrimSpace(strings.Repeat("1 ", 2001)), strings.TrimSpace(strings.Repeat("| ", 401)), "|" + strings.Repeat(" 1", 2001),
	} {
		if a, e := inquiry.ReadAnswer(s); !alike(a, api.Answer{}) || e != api.ErrForm {
			t.Errorf("%.40q: %d values, error %d", s, len(a.Values), e)
		}
	}
}

// P9.1, I10: the limits of an answer, before its numbers.
func TestAnswerLimits(t *testing.T) {
	so := func(n, x int) []int { return slices.Repeat([]int{x}, n) }
	lists := func(n int) [][]int { return make([][]int, n) }
	for _, c := range []struct {
		what string
		a    api.Answer
		want api.Errno
	}{
		{"2000 values, 400 lists, 2000 numbers in one", answer(so(2000, 1), append(lists(399), so(2000, -1))...), api.OK},
		{"2001 values", answer(so(2001, 1)), api.ErrLimit},
		{"2001 values that are none", answer(so(2001, -2)), api.ErrLimit},
		{"401 lists", answer(nil, lists(401)...), api.ErrLimit},
		{"401 lists, and a value that is none", answer(so(1, -2), lists(401)...), api.ErrLimit},
		{"2001 numbers", answer(nil, nil, so(2001, 1)), api.ErrLimit},
		{"2001 numbers, behind one that is none", answer(so(1, -2), so(1, -2), so(2001, 1)), api.ErrLimit},
		{"a value less", answer([]int{1, -2}), api.ErrArg},
		{"a value greater", answer([]int{1000000000001, 1}), api.ErrArg},
		{"a number less", answer([]int{1}, nil, []int{1, -2}), api.ErrArg},
		{"a number greater", answer([]int{1}, []int{1000000000001}, nil), api.ErrArg},
		{"far away", answer([]int{math.MinInt}, []int{math.MaxInt}), api.ErrArg},
	} {
		s, e := inquiry.WriteAnswer(c.a)
		if e != c.want || (e == api.OK) != (s != "") {
			t.Errorf("%s: %.40q, error %d, want %d", c.what, s, e, c.want)
		}
		if e != api.OK {
			continue
		}
		if a, e := inquiry.ReadAnswer(s); !alike(a, c.a) || e != api.OK {
			t.Errorf("%s, read: error %d", c.what, e)
		}
	}
}

// P9.8: ReadAnswer inverts WriteAnswer, and the other way round.
func TestAnswersInverted(t *testing.T) {
	r := rand.New(rand.NewPCG(9, 4))
	some := func() []int {
		var l []int
		for range r.IntN(5) {
			l = append(l, []int{-1, 0, r.IntN(100), r.IntN(1000000000001)}[r.IntN(4)])
		}
		return l
	}
	for range 1000 {
		a := answer(some())
		for range r.IntN(4) {
			a.Proof = append(a.Proof, some())
		}
		s, e := inquiry.WriteAnswer(a)
		got, f := inquiry.ReadAnswer(s)
		if !alike(got, a) || e != api.OK || f != api.OK {
			t.Errorf("%+v: %q, %+v, errors %d, %d", a, s, got, e, f)
		}
		// What can be read at all is written so.
		at := r.IntN(len(s) + 1)
		changed := s[:at] + []string{" ", "|", "0", "-", " |", "1 "}[r.IntN(6)] + s[at:]
		if got, e := inquiry.ReadAnswer(changed); e == api.OK {
			if again, f := inquiry.WriteAnswer(got); again != changed || f != api.OK {
				t.Errorf("%q: %q, error %d", changed, again, f)
			}
		} else if e != api.ErrForm || !alike(got, api.Answer{}) {
			t.Errorf("%q: %+v, error %d", changed, got, e)
		}
	}
}
