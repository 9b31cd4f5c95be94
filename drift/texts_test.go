package drift_test

import (
	"math/rand/v2"
	"strings"
	"testing"

	"lagan/api"
	"lagan/drift"
)

// P2.1, B4, and P2.8: lines, and their records.
func TestWriteRead(t *testing.T) {
	for _, c := range []struct {
		line string
		x    api.Wind
	}{
		{"9 8 wind 6 7 -1 1 0 2", aWind},
		{"9 8 void 7", aVoid},
		{"1 0 wind 0 0 0 0 0 0", api.Wind{Id: 1}},
		{"1 0 wind 2 30 -2 -1 1 2", api.Wind{Id: 1, From: 2, Until: 30, Along: api.Range{Low: -2, High: -1}, Ashore: api.Range{Low: 1, High: 2}}},
		{"1000000 1000000 wind 1000000 1000000 2 2 -2 -2", api.Wind{Id: 1000000, Known: 1000000, From: 1000000, Until: 1000000,
			Along: api.Range{Low: 2, High: 2}, Ashore: api.Range{Low: -2, High: -2}}},
		{"1 0 void 1", api.Wind{Id: 1, Of: 1}},
		{"1000000 1000000 void 1000000", api.Wind{Id: 1000000, Known: 1000000, Of: 1000000}},
	} {
		if s, e := drift.Write(c.x); s != c.line || e != api.OK {
			t.Errorf("Write: %q, error %d, want %q", s, e, c.line)
		}
		if x, e := drift.Read(c.line); x != c.x || e != api.OK {
			t.Errorf("Read(%q): %+v, error %d", c.line, x, e)
		}
	}
}

// P2.1, B4: lines of no record.
func TestReadForm(t *testing.T) {
	for _, s := range []string{
		"", " ", "1", "1 0", "1 0 ", "1 0 void", "1 0 void ", "1 0 void 0", "1 0 void -1", "1 0 void 1 ", " 1 0 void 1", "1  0 void 1", "1 0 void 1 1",
		"01 0 void 1", "1 00 void 1", "1 0 void 01", "+1 0 void 1", "1 +0 void 1", "1 -0 void 1", "-1 0 void 1", "0 0 void 1", "1 -1 void 1",
		"1 0 void 1\n", "1 0 void 1\t", "1\t0 void 1", "1 0 Void 1", "1 0 voids 1", "1 0 voi 1", "1 0  1", "1 0 void x", "x 0 void 1", "1 x void 1",
		"1 0 void 1_0", "1 0 void 0x1", "1 0 void 1.0", "1 0 void \u0661", "1 0 void 99999999999999999999", "1 0 void 18446744073709551617",
		"1000001 0 void 1", "1 1000001 void 1", "1 0 void 1000001",
		"1 0 void 0 0 0 0 0 0", "1 0 void 1 1 0 0 0 0", "1 0 wind 1", "1 0 wind 0",
		"1 0 wind", "1 0 wind 0 0 0 0 0", "1 0 wind 0 0 0 0 0 0 0", "1 0 wind 0 0 0 0 0 0 ", "1 0 wind 0 0 0 0 0 ", "1 0 wind 0 0 0 0  0 0",
		"1 0 wind 1 0 0 0 0 0", "1 0 wind -1 0 0 0 0 0", "1 0 wind 0 1000001 0 0 0 0", "1 0 wind -0 0 0 0 0 0", "1 0 wind 0 00 0 0 0 0",
		"1 0 wind 0 0 -3 0 0 0", "1 0 wind 0 0 0 3 0 0", "1 0 wind 0 0 1 0 0 0", "1 0 wind 0 0 0 0 -3 0", "1 0 wind 0 0 0 0 0 3", "1 0 wind 0 0 0 0 1 0",
		"1 0 wind 0 0 -0 0 0 0", "1 0 wind 0 0 0 0 0 -0", "1 0 wind 0 0 -01 0 0 0", "1 0 wind 0 0 0 +1 0 0", "1 0 wind 0 0 0 - 0 0", "1 0 wind 0 0 0 x 0 0",
		"1 0 wind 0 0 0 0 0 0\n", "1 0 winds 0 0 0 0 0 0", "1 0 0 wind 0 0 0 0 0", "0 0 wind 0 0 0 0 0 0", "1 0 wind 0 0 0 0 0 99999999999999999999",
		strings.Repeat("1 ", 1000), strings.Repeat(" ", 1000), "1 0 void " + strings.Repeat("9", 1000),
	} {
		if x, e := drift.Read(s); e != api.ErrForm || x != (api.Wind{}) {
			t.Errorf("Read(%q): %+v, error %d", s, x, e)
		}
	}
}

// P2.8: records that are as said, and lines that are spoilt at one place.
func TestTexts(t *testing.T) {
	r := rand.New(rand.NewPCG(1, 8))
	for range 300 {
		for _, x := range randomLog(r, 1000000) {
			s, e := drift.Write(x)
			if y, g := drift.Read(s); x != y || e != api.OK || g != api.OK {
				t.Fatalf("%+v: %q, error %d; %+v, error %d", x, s, e, y, g)
			}
		}
	}
	signs, lines, got := "0123456789 -+wivodn\n_", []string{"10 20 wind 30 400 -1 1 -2 2", "10 20 void 30"}, 0
	for range 20000 {
		b := spoilt(r, lines[r.IntN(len(lines))], signs)
		x, e := drift.Read(b)
		if e == api.OK {
			got++
			if s, e := drift.Write(x); s != b || e != api.OK {
				t.Fatalf("Write of %q: %q, error %d", b, s, e)
			}
		} else if e != api.ErrForm || x != (api.Wind{}) {
			t.Fatalf("Read(%q): %+v, error %d", b, x, e)
		}
	}
	if got < 1000 {
		t.Errorf("only %d lines were read", got)
	}
}
