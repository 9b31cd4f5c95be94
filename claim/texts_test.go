package claim_test

import (
	"math/rand/v2"
	"strings"
	"testing"

	"lagan/api"
	"lagan/claim"
)

// P5.1, E11, and P5.10: lines, and their deeds.
func TestWriteRead(t *testing.T) {
	for _, c := range []struct {
		line string
		x    api.Deed
	}{
		{"9 8 7 paid 6 5 4 3 1 2", aPaid},
		{"9 8 7 sold 6 5 4 3 1 2", aSold},
		{"9 8 7 left 6 5 4 3", aLeft},
		{"9 8 7 claim 6 5 4", aClaim},
		{"9 8 7 withdraw 4", aWithdraw},
		{"9 8 void 4", aVoid},
		{"1 0 0 left 1 1 1 0", api.Deed{Id: 1, Kind: 3, Loss: 1, Pack: 1, From: 1}},
		{"1 0 0 paid 1 1 1 2 1 1", api.Deed{Id: 1, Kind: 1, Loss: 1, Pack: 1, From: 1, To: 2, Share: frac(1, 1)}},
		{"1 0 void 1", api.Deed{Id: 1, Kind: 6, Of: 1}},
		{"1000000 1000000 1000000 sold 20 200 40 39 999999 1000000", api.Deed{Id: 1000000, Known: 1000000, Hour: 1000000, Kind: 2, Loss: 20, Pack: 200, From: 40, To: 39, Share: frac(999999, 1000000)}},
		{"1000000 1000000 1000000 withdraw 1000000", api.Deed{Id: 1000000, Known: 1000000, Hour: 1000000, Kind: 5, Of: 1000000}},
	} {
		if s, e := claim.Write(c.x); s != c.line || e != api.OK {
			t.Errorf("Write: %q, error %d, want %q", s, e, c.line)
		}
		if x, e := claim.Read(c.line); x != c.x || e != api.OK {
			t.Errorf("Read(%q): %+v, error %d", c.line, x, e)
		}
	}
}

// P5.1, E11: deeds that are not well-formed have no line.
func TestWriteErrors(t *testing.T) {
	for _, x := range kinds() {
		for _, spoil := range []func(x *api.Deed){
			func(x *api.Deed) { x.Id = 0 }, func(x *api.Deed) { x.Known = -1 }, func(x *api.Deed) { x.Hour = 1000001 }, func(x *api.Deed) { x.Kind = 7 }, func(x *api.Deed) { x.Kind = 0 },
			func(x *api.Deed) { x.Loss = 21 }, func(x *api.Deed) { x.Pack = 201 }, func(x *api.Deed) { x.From = 41 }, func(x *api.Deed) { x.To = 41 }, func(x *api.Deed) { x.Share = frac(2, 4) },
			func(x *api.Deed) { x.Of = 1000001 },
		} {
			y := x
			spoil(&y)
			if s, e := claim.Write(y); s != "" || e != api.ErrArg {
				t.Errorf("Write(%+v): %q, error %d", y, s, e)
			}
		}
	}
	if s, e := claim.Write(api.Deed{}); s != "" || e != api.ErrArg {
		t.Errorf("Write of nothing: %q, error %d", s, e)
	}
}

// P5.1, E11: lines of no deed.
func TestReadForm(t *testing.T) {
	for _, s := range []string{
		"", " ", "1", "1 0", "1 0 ", "1 0 void", "1 0 void ", "1 0 void 0", "1 0 void 1 ", " 1 0 void 1", "1  0 void 1", "1 0  void 1", "1 0 void 1 1",
		"01 0 void 1", "1 00 void 1", "1 0 void 01", "+1 0 void 1", "1 +0 void 1", "1 -0 void 1", "-1 0 void 1", "0 0 void 1", "1 -1 void 1",
		"1 0 void 1\n", "1 0 void 1\t", "1\t0 void 1", "1 0 Void 1", "1 0 voids 1", "1 0 voi 1", "1 0  1", "1 0 void x", "x 0 void 1", "1 x void 1",
		"1 0 void 1_0", "1 0 void 0x1", "1 0 void 1.0", "1 0 void 1e0", "1 0 void \u0661", "1 0 void 99999999999999999999", "1 0 void 18446744073709551617",
		"1000001 0 void 1", "1 1000001 void 1", "1 0 void 1000001", "1 0 0 void 1", "1 0 5 void 1", "void 1 0 1", "1 void 0 1",
		"1 0 withdraw 1", "1 0 0 withdraw", "1 0 0 withdraw 0", "1 0 0 withdraw 1 1", "1 0 1000001 withdraw 1", "1 0 -0 withdraw 1", "1 0 00 withdraw 1", "1 0 x withdraw 1", "1 0  withdraw 1",
		"1 0 0 claim 1 1", "1 0 0 claim 1 1 1 1", "1 0 0 claim 0 1 1", "1 0 0 claim 21 1 1", "1 0 0 claim 1 0 1", "1 0 0 claim 1 201 1", "1 0 0 claim 1 1 0", "1 0 0 claim 1 1 41", "1 0 claim 1 1 1", "1 0 0 claim 1 1 01",
		"1 0 0 left 1 1 1", "1 0 0 left 1 1 1 1", "1 0 0 left 1 1 0 1", "1 0 0 left 1 1 1 41", "1 0 0 left 1 1 1 -0", "1 0 0 left 1 1 1 00", "1 0 0 left 1 1 1 0 0", "1 0 0 left 1 1 1 2 1 2", "1 0 0 left 1 1 1 ", "1 0 0 left 1 1 1 x",
		"1 0 0 paid 1 1 1 2 1", "1 0 0 paid 1 1 1 2 1 2 3", "1 0 0 paid 1 1 1 2 2 4", "1 0 0 paid 1 1 1 2 0 1", "1 0 0 paid 1 1 1 2 -1 2", "1 0 0 paid 1 1 1 2 3 2", "1 0 0 paid 1 1 1 2 1 -2", "1 0 0 paid 1 1 1 2 1 0",
		"1 0 0 paid 1 1 1 2 1/2", "1 0 0 paid 1 1 1 2 1 1000001", "1 0 0 paid 1 1 1 1 1 2", "1 0 0 paid 1 1 1 0 1 2", "1 0 0 paid 1 1 0 2 1 2", "1 0 0 sold 1 1 1 0 1 2", "1 0 0 sold 1 1 1 1 1 1", "1 0 0 sold 1 1 1 2 01 2", "1 0 0 sold 1 1 1 2 1 2 ",
		"1 0 0  1", "1 0 0  1 1 1", "1 0 0 ", "1 0 0 4 1 1 1", "1 0 0 bought 1 1 1 2 1 2", "1 0 0 PAID 1 1 1 2 1 2",
		strings.Repeat("1 ", 1000), strings.Repeat(" ", 1000), "1 0 void " + strings.Repeat("9", 1000), "1 0 0 paid 1 1 1 2 1 2" + strings.Repeat(" 1", 1000),
	} {
		if x, e := claim.Read(s); e != api.ErrForm || x != (api.Deed{}) {
			t.Errorf("Read(%q): %+v, error %d", s, x, e)
		}
	}
}

// P5.10: lines that are spoilt at one place are read only if they are written like that.
func TestReadSpoilt(t *testing.T) {
	r := rand.New(rand.NewPCG(5, 10))
	signs := "0123456789 -+adilopst\nA_/"
	lines := []string{"10 20 30 paid 3 4 5 6 7 8", "10 20 30 sold 3 4 5 6 7 8", "10 20 30 left 3 4 5 6", "10 20 30 claim 3 4 5", "10 20 30 withdraw 40", "10 20 void 30"}
	read := 0
	for range 20000 {
		b := []byte(lines[r.IntN(len(lines))])
		i := r.IntN(len(b))
		switch c := signs[r.IntN(len(signs))]; r.IntN(3) {
		case 0:
			b[i] = c
		case 1:
			b = append(b[:i], b[i+1:]...)
		default:
			b = append(b[:i], append([]byte{c}, b[i:]...)...)
		}
		x, e := claim.Read(string(b))
		if e == api.OK {
			read++
			if s, e := claim.Write(x); s != string(b) || e != api.OK {
				t.Fatalf("Write of %q: %q, error %d", b, s, e)
			}
		} else if e != api.ErrForm || x != (api.Deed{}) {
			t.Fatalf("Read(%q): %+v, error %d", b, x, e)
		}
	}
	if read < 1000 {
		t.Errorf("only %d lines were read", read)
	}
}

// P5.10: deeds within their bounds.
func TestWriteInverted(t *testing.T) {
	r := rand.New(rand.NewPCG(5, 11))
	for range 1000 {
		for _, x := range randomRegister(r, 20) {
			x.Id, x.Known = 1+r.IntN(1000000), r.IntN(1000001)
			if x.Kind != 6 {
				x.Hour = r.IntN(1000001)
			}
			s, e := claim.Write(x)
			if y, g := claim.Read(s); x != y || e != api.OK || g != api.OK {
				t.Fatalf("%+v: %q, error %d; %+v, error %d", x, s, e, y, g)
			}
		}
	}
}
