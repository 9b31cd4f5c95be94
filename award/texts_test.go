package award_test

import (
	"math/rand/v2"
	"strings"
	"testing"

	"lagan/api"
	"lagan/award"
)

// checkWritten checks records with their lines.
func checkWritten[T comparable](t *testing.T, write func(T) (string, api.Errno), read func(string) (T, api.Errno), records map[string]T) {
	t.Helper()
	for line, x := range records {
		if s, e := write(x); s != line || e != api.OK {
			t.Errorf("writing %+v: %q, error %d, want %q", x, s, e, line)
		}
		if y, e := read(line); x != y || e != api.OK {
			t.Errorf("reading %q: %+v, error %d", line, y, e)
		}
	}
}

// checkUnwritten checks that records have no line.
func checkUnwritten[T any](t *testing.T, write func(T) (string, api.Errno), records []T) {
	t.Helper()
	for _, x := range records {
		if s, e := write(x); s != "" || e != api.ErrArg {
			t.Errorf("writing %+v: %q, error %d", x, s, e)
		}
	}
}

// checkUnread checks that lines are of no record.
func checkUnread[T comparable](t *testing.T, read func(string) (T, api.Errno), lines []string) {
	t.Helper()
	var none T
	for _, s := range lines {
		if x, e := read(s); e != api.ErrForm || x != none {
			t.Errorf("reading %q: %+v, error %d", s, x, e)
		}
	}
}

// checkAsWritten reads a line, and reports whether it is of a record; it checks that it is written so then.
func checkAsWritten[T comparable](t *testing.T, write func(T) (string, api.Errno), read func(string) (T, api.Errno), line string) bool {
	t.Helper()
	x, e := read(line)
	if e != api.OK {
		checkUnread(t, read, []string{line})
		return false
	}
	if s, e := write(x); s != line || e != api.OK {
		t.Errorf("writing what %q is read as: %q, error %d", line, s, e)
	}
	return true
}

// checkRead checks that a record is what its line is read as.
func checkRead[T comparable](t *testing.T, write func(T) (string, api.Errno), read func(string) (T, api.Errno), x T) {
	t.Helper()
	s, e := write(x)
	if y, g := read(s); x != y || e != api.OK || g != api.OK {
		t.Errorf("%+v: %q, error %d; %+v, error %d", x, s, e, y, g)
	}
}

// P6.1, F10, and P6.9: lines of rates, and their records.
func TestWriteReadRate(t *testing.T) {
	checkWritten(t, award.WriteRate, award.ReadRate, map[string]api.Rate{
		"9 8 rate 7 oil 1 2 6 5":       aRate,
		"9 8 void 4":                   aRateVoid,
		"1 0 rate 0 all 1 4 20 5":      {Id: 1, Finder: frac(1, 4), Cart: 20, Store: 5},
		"1 0 rate 0 all 0 1 0 0":       {Id: 1, Finder: frac(0, 1)},
		"1 0 rate 0 rate 1 1 0 0":      {Id: 1, Goods: "rate", Finder: frac(1, 1)},
		"1 0 rate 0 void 1 1 0 0":      {Id: 1, Goods: "void", Finder: frac(1, 1)},
		"1 0 void 1":                   {Id: 1, Of: 1},
		"1000000 1000000 void 1000000": {Id: 1000000, Known: 1000000, Of: 1000000},
		"1000000 1000000 rate 1000000 " + strings.Repeat("z", 24) + " 999999 1000000 100000 100000": {Id: 1000000, Known: 1000000, From: 1000000, Goods: strings.Repeat("z", 24), Finder: frac(999999, 1000000), Cart: 100000, Store: 100000},
	})
	checkUnwritten(t, award.WriteRate, append(spoiltRates()[2:], api.Rate{}))
	var l []api.Rate
	for _, spoil := range []func(x *api.Rate){func(x *api.Rate) { x.From = 1 }, func(x *api.Rate) { x.Goods = "oil" }, func(x *api.Rate) { x.Finder = frac(0, 1) }, func(x *api.Rate) { x.Of = 1000001 }} {
		x := aRateVoid
		spoil(&x)
		l = append(l, x)
	}
	checkUnwritten(t, award.WriteRate, l)
}

// P6.1, F10, and P6.9: lines of sales, and their records.
func TestWriteReadSale(t *testing.T) {
	checkWritten(t, award.WriteSale, award.ReadSale, map[string]api.Sale{
		"9 8 7 sale 60 5 4 3 2":    aSale,
		"9 8 void 4":               aSaleVoid,
		"1 0 0 sale 10 1 0 0 0":    {Id: 1, Parcel: 10, Price: 1},
		"2 70 66 sale 20 12 7 0 0": {Id: 2, Known: 70, Hour: 66, Parcel: 20, Price: 12, Carter: 7},
		"1 0 void 1":               {Id: 1, Of: 1},
		"1000000 1000000 1000000 sale 10000007 1000000000 40 40 1000000": {Id: 1000000, Known: 1000000, Hour: 1000000, Parcel: 10000007, Price: 1000000000, Carter: 40, Keeper: 40, Since: 1000000},
	})
	checkUnwritten(t, award.WriteSale, append(spoiltSales()[2:], api.Sale{}))
	var l []api.Sale
	for _, spoil := range []func(x *api.Sale){func(x *api.Sale) { x.Hour = 1 }, func(x *api.Sale) { x.Parcel = 10 }, func(x *api.Sale) { x.Since = 1 }, func(x *api.Sale) { x.Of = 1000001 }} {
		x := aSaleVoid
		spoil(&x)
		l = append(l, x)
	}
	checkUnwritten(t, award.WriteSale, l)
}

// badLines are lines of no record at all.
func badLines() []string {
	return []string{
		"", " ", "1", "1 0", "1 0 ", "1 0 void", "1 0 void ", "1 0 void 0", "1 0 void 1 ", " 1 0 void 1", "1  0 void 1", "1 0  void 1", "1 0 void  1", "1 0 void 1 1",
		"01 0 void 1", "1 00 void 1", "1 0 void 01", "+1 0 void 1", "1 +0 void 1", "1 -0 void 1", "-1 0 void 1", "0 0 void 1", "1 -1 void 1", "1 0 void -1",
		"1 0 void 1\n", "1 0 void 1\t", "1 0 void 1\r", "1\t0 void 1", "1 0 Void 1", "1 0 voids 1", "1 0 voi 1", "1 0  1", "1 0 0 1", "1 0 rate 1", "1 0 sale 1", "1 0 void x", "x 0 void 1", "1 x void 1",
		"1 0 void 1_0", "1 0 void 0x1", "1 0 void 1.0", "1 0 void 1e0", "1 0 void \u0661", "1 0 void 99999999999999999999", "1 0 void 18446744073709551617",
		"1000001 0 void 1", "1 1000001 void 1", "1 0 void 1000001", "1 0 0 void 1", "1 0 5 void 1", "void 1 0 1", "1 void 0 1",
		strings.Repeat("1 ", 1000), strings.Repeat(" ", 3), strings.Repeat(" ", 8), strings.Repeat(" ", 1000), "1 0 void " + strings.Repeat("9", 1000),
	}
}

// P6.1, F10: lines of no record of rates.
func TestReadRateForm(t *testing.T) {
	checkUnread(t, award.ReadRate, append(badLines(),
		"1 0 rate 0 all 1 4 20", "1 0 rate 0 all 1 4 20 5 6", "1 0 rate 0 all 1 4 20 5 ", " 1 0 rate 0 all 1 4 20 5", "1 0 rate 0 all 1 4 20 ", "1 0 rate 0  1 4 20 5", "1 0 rate 0 1 4 20 5", "1 0 rate  all 1 4 20 5",
		"1 0 rates 0 all 1 4 20 5", "1 0 RATE 0 all 1 4 20 5", "1 0 void 0 all 1 4 20 5", "1 0 sale 0 all 1 4 20 5", "1 0  0 all 1 4 20 5", "1 0 5 rate 0 all 1 4 20", "1 0 5 rate 0 all 1 4 20 5",
		"1 0 rate 0 ALL 1 4 20 5", "1 0 rate 0 9 1 4 20 5", "1 0 rate 0 oi? 1 4 20 5", "1 0 rate 0 "+strings.Repeat("a", 25)+" 1 4 20 5", "1 0 rate 0 a\u00e4 1 4 20 5",
		"1 0 rate 0 all 2 4 20 5", "1 0 rate 0 all 0 2 20 5", "1 0 rate 0 all 0 0 20 5", "1 0 rate 0 all 1 0 20 5", "1 0 rate 0 all 3 2 20 5", "1 0 rate 0 all -1 2 20 5", "1 0 rate 0 all 1 -2 20 5", "1 0 rate 0 all 1 1000001 20 5", "1 0 rate 0 all 1/4 20 5", "1 0 rate 0 all 01 4 20 5",
		"1 0 rate 1000001 all 1 4 20 5", "1 0 rate -1 all 1 4 20 5", "1 0 rate -0 all 1 4 20 5", "1 0 rate 00 all 1 4 20 5", "1 0 rate x all 1 4 20 5", "1 0 rate 0 all 1 4 100001 5", "1 0 rate 0 all 1 4 20 100001", "1 0 rate 0 all 1 4 -1 5", "1 0 rate 0 all 1 4 20 -1", "1 0 rate 0 all 1 4 020 5", "1 0 rate 0 all 1 4 20 +5", "1 0 rate 0 all 1 4 20 x",
		"0 0 rate 0 all 1 4 20 5", "1 1000001 rate 0 all 1 4 20 5", "1 0 rate 0 all 1 4 20 5\n", "1 0 rate 0 all 1 4 20 99999999999999999999",
	))
}

// P6.1, F10: lines of no record of sales.
func TestReadSaleForm(t *testing.T) {
	checkUnread(t, award.ReadSale, append(badLines(),
		"1 9 8 sale 10 5 4 3", "1 9 8 sale 10 5 4 3 2 1", "1 9 8 sale 10 5 4 3 2 ", " 1 9 8 sale 10 5 4 3 2", "1 9 8 sale 10 5 4 3 ", "1 9 8 sale  10 5 4 3 2", "1 9  sale 10 5 4 3 2", "1 9 sale 10 5 4 3 2", "1 9 sale 8 10 5 4 3 2",
		"1 9 8 sales 10 5 4 3 2", "1 9 8 Sale 10 5 4 3 2", "1 9 8 void 10 5 4 3 2", "1 9 8 rate 10 5 4 3 2", "1 9 8  10 5 4 3 2", "1 9 void sale 10 5 4 3 2",
		"1 9 10 sale 10 5 4 3 2", "1 9 -1 sale 10 5 4 0 0", "1 9 -0 sale 10 5 4 0 0", "1 9 08 sale 10 5 4 3 2", "1 9 8 sale 9 5 4 3 2", "1 9 8 sale 10000008 5 4 3 2", "1 9 8 sale 10 0 4 3 2", "1 9 8 sale 10 1000000001 4 3 2", "1 9 8 sale 10 -5 4 3 2",
		"1 9 8 sale 10 5 41 3 2", "1 9 8 sale 10 5 -1 3 2", "1 9 8 sale 10 5 4 41 2", "1 9 8 sale 10 5 4 -1 2", "1 9 8 sale 10 5 4 3 9", "1 9 8 sale 10 5 4 3 -1", "1 9 8 sale 10 5 4 0 1", "1 9 8 sale 10 5 4 3 02", "1 9 8 sale 10 5 4 3 x", "1 9 8 sale 10 5 +4 3 2",
		"0 9 8 sale 10 5 4 3 2", "1 1000001 8 sale 10 5 4 3 2", "1 9 8 sale 10 5 4 3 2\n", "1 9 8 sale 10 99999999999999999999 4 3 2",
	))
}

// spoilt returns a line that is changed at one place.
func spoilt(r *rand.Rand, line string) string {
	signs := "0123456789 -+aeilorstvd\nA_/"
	c := string(signs[r.IntN(len(signs))])
	i := r.IntN(len(line))
	return line[:i] + []string{c, "", c + line[i:i+1]}[r.IntN(3)] + line[i+1:]
}

// P6.9: lines that are spoilt at one place are read only if they are written like that.
func TestReadSpoilt(t *testing.T) {
	r := rand.New(rand.NewPCG(6, 13))
	lines := []string{"10 20 rate 30 oil 4 5 60 70", "10 20 rate 30 all 4 5 60 70", "10 20 void 30", "10 20 15 sale 30 40 5 6 7", "10 20 15 sale 30 40 5 0 0"}
	read := 0
	for range 30000 {
		line := spoilt(r, lines[r.IntN(len(lines))])
		if checkAsWritten(t, award.WriteRate, award.ReadRate, line) {
			read++
		}
		if checkAsWritten(t, award.WriteSale, award.ReadSale, line) {
			read++
		}
	}
	if read < 3000 {
		t.Errorf("only %d lines were read", read)
	}
}

// P6.9: records within their bounds.
func TestWriteInverted(t *testing.T) {
	r := rand.New(rand.NewPCG(6, 14))
	for range 1000 {
		for _, x := range randomRates(r, 10) {
			x.Id, x.Known = 1+r.IntN(1000000), r.IntN(1000001)
			checkRead(t, award.WriteRate, award.ReadRate, x)
		}
		for _, x := range randomSales(r, 10) {
			x.Id, x.Known = 1+r.IntN(1000000), x.Known+r.IntN(900000)
			checkRead(t, award.WriteSale, award.ReadSale, x)
		}
	}
}
