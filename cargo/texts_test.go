package cargo_test

import (
	"math/rand/v2"
	"strings"
	"testing"

	"lagan/api"
	"lagan/cargo"
)

// P1.1, A10, and P1.9: lines, and their papers.
func TestWriteRead(t *testing.T) {
	for _, c := range []struct {
		line string
		x    api.Paper
	}{
		{"9 8 package 7 6 5 a?9 oil 4 30 2 1", aPackage},
		{"9 8 total 7 6 5 4 30", aTotal},
		{"9 8 void 7", aVoid},
		{"1 0 total 1 0 0 0 0", api.Paper{Id: 1, Kind: api.PaperTotal, Loss: 1}},
		{"1 0 void 1", api.Paper{Id: 1, Kind: api.PaperVoid, Of: 1}},
		{"1000000 1000000 package 20 200 0 ???????????? a-0 100000 100000 20 40", api.Paper{Id: 1000000, Known: 1000000, Kind: api.PaperPackage,
			Loss: 20, Pack: 200, Mark: "????????????", Goods: "a-0", Weight: api.Span{Low: 100000, High: 100000}, Pieces: 20, Owner: 40}},
		{"1 0 package 1 1 200 package total 1 1 1 1", api.Paper{Id: 1, Kind: api.PaperPackage, Loss: 1, Pack: 1, In: 200,
			Mark: "package", Goods: "total", Weight: api.Span{Low: 1, High: 1}, Pieces: 1, Owner: 1}},
		{"7 1 total 20 200 40 10000000 10000000", api.Paper{Id: 7, Known: 1, Kind: api.PaperTotal, Loss: 20, Pack: 200, Count: 40, Weight: api.Span{Low: 10000000, High: 10000000}}},
	} {
		if s, e := cargo.Write(c.x); s != c.line || e != api.OK {
			t.Errorf("Write: %q, error %d, want %q", s, e, c.line)
		}
		if x, e := cargo.Read(c.line); x != c.x || e != api.OK {
			t.Errorf("Read(%q): %+v, error %d", c.line, x, e)
		}
	}
}

// P1.1, A10: lines of no paper.
func TestReadForm(t *testing.T) {
	for _, s := range []string{
		"", " ", "1", "1 0", "1 0 ", "1 0 void", "1 0 void ", "1 0 void 0", "1 0 void 1 ", " 1 0 void 1", "1  0 void 1", "1 0 void 1 1",
		"01 0 void 1", "1 00 void 1", "1 0 void 01", "+1 0 void 1", "1 +0 void 1", "1 -0 void 1", "-1 0 void 1", "0 0 void 1", "1 -1 void 1",
		"1 0 void 1\n", "1 0 void 1\t", "1\t0 void 1", "1 0 Void 1", "1 0 voids 1", "1 0 voi 1", "1 0  1", "1 0 void x", "x 0 void 1", "1 x void 1",
		"1 0 void 1_0", "1 0 void 0x1", "1 0 void 1.0", "1 0 void 1e0", "1 0 void \u0661", "1 0 void 99999999999999999999", "1 0 void 18446744073709551617",
		"1000001 0 void 1", "1 1000001 void 1", "1 0 void 1000001",
		"1 0 package 1 1 1 a b 1 1 1 1", "1 0 package 21 1 0 a b 1 1 1 1", "1 0 package 0 1 0 a b 1 1 1 1", "1 0 package 1 0 1 a b 1 1 1 1",
		"1 0 package 1 1 0 A b 1 1 1 1", "1 0 package 1 1 0 a 9 1 1 1 1", "1 0 package 1 1 0  b 1 1 1 1", "1 0 package 1 1 0 a  1 1 1 1",
		"1 0 package 1 1 0 a b 2 1 1 1", "1 0 package 1 1 0 a b 0 1 1 1", "1 0 package 1 1 0 a b 1 1 21 1", "1 0 package 1 1 0 a b 1 1 1 41",
		"1 0 package 1 1 0 a b 1 1 1", "1 0 package 1 1 0 a b 1 1 1 1 1", "1 0 package 1 1 0 a b 1 1 1 1 ", "1 0 package 1 1 -0 a b 1 1 1 1", "1 0 package 1 1 00 a b 1 1 1 1",
		"1 0 package 1 1 0 a b 01 1 1 1", "1 0 package 1 1 0 a b 1 1 01 1", "1 0 package 01 1 0 a b 1 1 1 1",
		"1 0 total 1 0 41 0 0", "1 0 total 1 201 1 0 0", "1 0 total 1 0 1 1 0", "1 0 total 1 0 1 0", "1 0 total 1 0 1 0 0 0", "1 0 total 1 0 1 0 -0", "1 0 total 1 -0 1 0 0",
		"1 0 total 1 0 1 0 10000001", "1 0 total 1 00 1 0 0", "1 0 total 0 0 1 0 0",
		"1 0 package 1 0 41 0 0", "1 0 total 1", "1 0 void 1 1 0 a b 1 1 1 1", "1 0 package 1", "1 0 PACKAGE 1 1 0 a b 1 1 1 1", "1 0 1 1 1 0 a b 1 1 1 1",
		strings.Repeat("1 ", 1000), strings.Repeat(" ", 1000), "1 0 void " + strings.Repeat("9", 1000),
	} {
		if x, e := cargo.Read(s); e != api.ErrForm || x != (api.Paper{}) {
			t.Errorf("Read(%q): %+v, error %d", s, x, e)
		}
	}
}

// P1.9: lines that are spoilt at one place are read only if they are written like that.
func TestReadSpoilt(t *testing.T) {
	r := rand.New(rand.NewPCG(1, 9))
	signs := "0123456789 -+?abz\nA_"
	lines := []string{"10 20 package 3 4 5 a?9 oil-2 6 70 8 9", "10 20 total 3 4 5 6 70", "10 20 void 30"}
	read := 0
	for range 20000 {
		b := []byte(lines[r.IntN(len(lines))])
		i := r.IntN(len(b))
		switch c := signs[r.IntN(len(signs))]; r.IntN(3) {
		case 0:
			b[i] = c
		case 1:
			b = append(b[:i], b[i+1:]...)
		default:
			b = append(b[:i], append([]byte{c}, b[i:]...)...)
		}
		x, e := cargo.Read(string(b))
		if e == api.OK {
			read++
			if s, e := cargo.Write(x); s != string(b) || e != api.OK {
				t.Fatalf("Write of %q: %q, error %d", b, s, e)
			}
		} else if e != api.ErrForm || x != (api.Paper{}) {
			t.Fatalf("Read(%q): %+v, error %d", b, x, e)
		}
	}
	if read < 1000 {
		t.Errorf("only %d lines were read", read)
	}
}

// P1.9: papers within their bounds.
func TestWriteInverted(t *testing.T) {
	r := rand.New(rand.NewPCG(2, 9))
	for range 300 {
		for _, x := range randomFile(t, r, 1+r.IntN(100000)) {
			s, e := cargo.Write(x)
			if y, g := cargo.Read(s); x != y || e != api.OK || g != api.OK {
				t.Fatalf("%+v: %q, error %d; %+v, error %d", x, s, e, y, g)
			}
		}
	}
}
