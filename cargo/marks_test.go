package cargo_test

import (
	"strings"
	"testing"

	"lagan/cargo"
)

// P1.1, A2: marks that can be one, and strings that are no marks.
func TestMeet(t *testing.T) {
	long := strings.Repeat("z", 12)
	for _, c := range []struct {
		a, b string
		want bool
	}{
		{"ab?", "a?c", true}, {"ab?", "ac?", false}, {"ab", "abc", false}, {"ab?", "abc", true}, {"ab?", "acc", false},
		{"???", "a0z", true}, {"???", "????", false}, {"?", "?", true}, {"a", "a", true}, {"a", "b", false},
		{"ab", "aa", false}, {"ba", "aa", false}, {"0", "o", false}, {"", "", false}, {"a", "", false}, {"", "?", false},
		{long, long, true}, {long, "?" + long[1:], true}, {long + "z", long + "z", false}, {long + "?", long + "?", false},
		{"A", "A", false}, {"A", "?", false}, {"?", "A", false}, {"a-b", "a-b", false}, {"a b", "a?b", false}, {"é", "??", false},
		{"a{", "a{", false}, {"`", "?", false}, {"/", "?", false}, {":", "?", false},
	} {
		if cargo.Meet(c.a, c.b) != c.want || cargo.Meet(c.b, c.a) != c.want {
			t.Errorf("Meet(%q, %q) is not %v", c.a, c.b, c.want)
		}
	}
}

// P1.1, A2: the signs that are read.
func TestSigns(t *testing.T) {
	long := strings.Repeat("z", 12)
	for mark, want := range map[string]int{
		"ab?": 2, "???": 0, "?": 0, "a": 1, "9": 1, "a?0?z": 3, long: 12, long + "z": 0, "": 0, "a-b": 0, "A": 0, "ab ": 0, "\xff": 0,
	} {
		if n := cargo.Signs(mark); n != want {
			t.Errorf("Signs(%q): %d, want %d", mark, n, want)
		}
	}
}

// P1.8: for all marks of up to 3 signs.
func TestMarksTogether(t *testing.T) {
	marks := []string{""}
	for i := 0; len(marks[i]) < 3; i++ {
		for _, c := range []string{"a", "b", "0", "?"} {
			marks = append(marks, marks[i]+c)
		}
	}
	for _, a := range marks[1:] {
		if !cargo.Meet(a, a) {
			t.Errorf("Meet(%q, %q)", a, a)
		}
		if cargo.Signs(a) != len(a)-strings.Count(a, "?") {
			t.Errorf("Signs(%q): %d", a, cargo.Signs(a))
		}
		for _, b := range marks[1:] {
			meet := len(a) == len(b)
			for i := 0; meet && i < len(a); i++ {
				meet = a[i] == b[i] || a[i] == '?' || b[i] == '?'
			}
			if cargo.Meet(a, b) != meet {
				t.Errorf("Meet(%q, %q) is not %v", a, b, meet)
			}
			if meet && cargo.Signs(a) == len(a) && cargo.Signs(b) > cargo.Signs(a) {
				t.Errorf("Signs(%q) is greater than Signs(%q)", b, a)
			}
		}
	}
}
