package find_test

import (
	"math/rand/v2"
	"reflect"
	"strings"
	"testing"

	"lagan/api"
	"lagan/find"
)

// P3.1, C10, and P3.9: lines, and their reports.
func TestWriteRead(t *testing.T) {
	for _, c := range []struct {
		line string
		x    api.Report
	}{
		{"9 8 7 found 6 a?9 oil 4 30 3", aFound},
		{"9 8 7 divided 60 5", aDivided},
		{"9 8 7 joined 60 50 71", aJoined},
		{"9 8 7 weighed 60 4 30", aWeighed},
		{"9 8 7 hidden 60 3", aHidden},
		{"9 8 7 shown 60 3", aShown},
		{"9 8 7 same 60 50", aSame},
		{"9 8 void 6", aVoid},
		{"1 0 0 found 0 ? a 1 1 1", api.Report{Id: 1, Kind: api.ReportFound, Mark: "?", Goods: "a", Weight: api.Span{Low: 1, High: 1}, Party: 1}},
		{"1 0 0 found 0 void void 1 1 1", api.Report{Id: 1, Kind: api.ReportFound, Mark: "void", Goods: "void", Weight: api.Span{Low: 1, High: 1}, Party: 1}},
		{"1000000 1000000 1000000 joined 10000007 10 11 12 13 14 15 16",
			api.Report{Id: 1000000, Known: 1000000, Hour: 1000000, Kind: api.ReportJoined, Parts: []int{10000007, 10, 11, 12, 13, 14, 15, 16}}},
		{"1 0 void 1000000", api.Report{Id: 1, Kind: api.ReportVoid, Of: 1000000}},
	} {
		if s, e := find.Write(c.x); s != c.line || e != api.OK {
			t.Errorf("Write: %q, error %d, want %q", s, e, c.line)
		}
		if x, e := find.Read(c.line); !reflect.DeepEqual(x, c.x) || e != api.OK {
			t.Errorf("Read(%q): %+v, error %d", c.line, x, e)
		}
	}
}

// P3.1, C10: lines of no report.
func TestReadForm(t *testing.T) {
	for _, s := range []string{
		"", " ", "1", "1 0", "1 0 ", "1 0 0", "1 0 0 ", "1 0 void", "1 0 void ", "1 0 void 0", "1 0 void -1", "1 0 void 2 ", " 1 0 void 2", "1  0 void 2", "1 0 void 2 2",
		"1 0 void 1", "01 0 void 2", "1 00 void 2", "1 0 void 02", "+1 0 void 2", "1 +0 void 2", "1 -0 void 2", "-1 0 void 2", "0 0 void 2", "1 -1 void 2",
		"1 0 void 2\n", "1 0 void 2\t", "1\t0 void 2", "1 0 Void 2", "1 0 voids 2", "1 0  2", "1 0 void x", "x 0 void 2", "1 x void 2", "1 0 void 2_0", "1 0 void 0x2",
		"1 0 void \u0661", "1 0 void 99999999999999999999", "1 0 void 18446744073709551618", "1000001 0 void 2", "1 1000001 void 2", "1 0 void 1000001",
		"1 0 0 void 2", "1 9 9 void 2", "1 0 void void 2", "void 0 0 void 2", "1 void 0 void 2",
		"1 0 0 found", "1 0 0 found 0 a oil 1 1", "1 0 0 found 0 a oil 1 1 1 1", "1 0 0 found 0 a oil 1 1 1 ", "1 0 0 found 0 a  1 1 1", "1 0 0 found 0  oil 1 1 1",
		"1 0 found 0 a oil 1 1 1", "1 0 1 found 0 a oil 1 1 1", "1 0 -1 found 0 a oil 1 1 1", "1 0 -0 found 0 a oil 1 1 1", "1 0 0 found -0 a oil 1 1 1",
		"1 0 0 found 40 a oil 1 1 1", "1 0 0 found 0 A oil 1 1 1", "1 0 0 found 0 a 9 1 1 1", "1 0 0 found 0 a oil 0 1 1", "1 0 0 found 0 a oil 2 1 1",
		"1 0 0 found 0 a oil 1 100001 1", "1 0 0 found 0 a oil 1 1 0", "1 0 0 found 0 a oil 1 1 41", "1 0 0 found 0 a oil 1 1 x", "1 0 0 found x a oil 1 1 1",
		"1 0 0 divided", "1 0 0 divided 10", "1 0 0 divided 10 1", "1 0 0 divided 10 9", "1 0 0 divided 10 2 2", "1 0 0 divided 9 2", "1 0 0 divided 10 +2", "1 0 divided 10 2",
		"1 0 0 joined", "1 0 0 joined 10", "1 0 0 joined 10 10", "1 0 0 joined 10 20 ", "1 0 0 joined 10  20", "1 0 0 joined 10 x", "1 0 0 joined 10 9",
		"1 0 0 joined 10 11 12 13 14 15 16 17 18", "1 0 0 joined 10 11 12 13 14 15 16 17 ", "1 0 0 joined 10 11 12 13 14 15 16 17 18 19 20",
		"1 0 0 weighed 10 1", "1 0 0 weighed 10 1 1 1", "1 0 0 weighed 10 0 1", "1 0 0 weighed 10 2 1", "1 0 0 weighed 9 1 1", "1 0 0 weighed 10 1 100001", "1 0 0 weighed 10 01 1",
		"1 0 0 hidden 10", "1 0 0 hidden 10 1 1", "1 0 0 hidden 10 0", "1 0 0 hidden 10 41", "1 0 0 hidden 10000008 1", "1 0 0 shown 10", "1 0 0 shown 10 0", "1 0 0 shown 9 1",
		"1 0 0 same 10", "1 0 0 same 10 10", "1 0 0 same 10 20 30", "1 0 0 same 9 10", "1 0 0 same 10 9", "1 0 0 same 10 10000008",
		"1 0 0 Found 0 a oil 1 1 1", "1 0 0  10 2", "1 0 0 weigh 10 1 1", "1 0 0 0 10 2", "1 0 0 found 0 a oil 1 1 1\n",
		strings.Repeat("1 ", 1000), strings.Repeat(" ", 1000), "1 0 void " + strings.Repeat("9", 1000), "1 0 0 joined" + strings.Repeat(" 10", 1000),
	} {
		if x, e := find.Read(s); e != api.ErrForm || !reflect.DeepEqual(x, api.Report{}) {
			t.Errorf("Read(%q): %+v, error %d", s, x, e)
		}
	}
}

// spoilt returns a line that is spoilt at one or two places.
func spoilt(r *rand.Rand, line, signs string) string {
	b := []byte(line)
	for range 1 + r.IntN(2) {
		i := r.IntN(len(b))
		switch r.IntN(3) {
		case 0:
			b[i] = signs[r.IntN(len(signs))]
		case 1:
			b = append(b[:i], b[min(i+1, len(b)):]...)
		default:
			b = append(b[:i], append([]byte{signs[r.IntN(len(signs))]}, b[i:]...)...)
		}
		if len(b) == 0 {
			b = []byte{' '}
		}
	}
	return string(b)
}

// P3.9: reports that are well-formed, and lines that are spoilt.
func TestTexts(t *testing.T) {
	t.Parallel()
	r := rand.New(rand.NewPCG(3, 10))
	w := newWriter(r, 100000, 0.5)
	seen := map[uint8]int{}
	for range 3000 {
		x := w.report()
		s, e := find.Write(x)
		if find.CheckReport(x) != api.OK {
			if s != "" || e != api.ErrArg {
				t.Fatalf("Write of %+v: %q, error %d", x, s, e)
			}
			continue
		}
		y, g := find.Read(s)
		if !reflect.DeepEqual(x, y) || e != api.OK || g != api.OK {
			t.Fatalf("%+v: %q, error %d; %+v, error %d", x, s, e, y, g)
		}
		seen[x.Kind]++
		if w.enter(x); len(w.l) > 20 {
			w.l = nil
		}
	}
	for kind := range uint8(8) {
		if seen[kind+1] < 50 {
			t.Errorf("kind %d: seen %d times only", kind+1, seen[kind+1])
		}
	}
	lines := []string{"12 20 13 found 6 a?9 oil 4 30 3", "12 20 13 divided 60 5", "12 20 13 joined 60 50 71", "12 20 13 weighed 60 4 30",
		"12 20 13 hidden 60 3", "12 20 13 shown 60 3", "12 20 13 same 60 50", "12 20 void 60"}
	got := 0
	for range 30000 {
		line := spoilt(r, lines[r.IntN(len(lines))], "0123456789 -+?avodn\n_")
		x, e := find.Read(line)
		if e == api.OK {
			got++
			if s, e := find.Write(x); s != line || e != api.OK {
				t.Fatalf("Write of %q: %q, error %d", line, s, e)
			}
		} else if e != api.ErrForm || !reflect.DeepEqual(x, api.Report{}) {
			t.Fatalf("Read(%q): %+v, error %d", line, x, e)
		}
	}
	if got < 1000 {
		t.Errorf("only %d lines were read", got)
	}
}
