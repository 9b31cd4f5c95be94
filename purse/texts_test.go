package purse_test

import (
	"math/rand/v2"
	"strings"
	"testing"

	"lagan/api"
	"lagan/purse"
)

// P7.1, G10, and P7.8: lines of postings, and the postings.
func TestWriteRead(t *testing.T) {
	for line, p := range map[string]api.Posting{
		"9 8 sale 60 5 4 3":     aSale,
		"9 8 pay 7 60 5 4 3":    aPay,
		"9 8 back 7 60 5 4 3":   aBack,
		"1 5 sale 10 1000 3 4":  {Id: 1, Hour: 5, Kind: api.PostSale, Parcel: 10, Amount: 1000, Reason: 3, Known: 4},
		"1 0 sale 10 1 1 0":     {Id: 1, Kind: api.PostSale, Parcel: 10, Amount: 1, Reason: 1},
		"1 0 pay 0 10 1 1 0":    {Id: 1, Kind: api.PostPay, Parcel: 10, Amount: 1, Reason: 1},
		"1 0 back 0 10 1 1 0":   {Id: 1, Kind: api.PostBack, Parcel: 10, Amount: 1, Reason: 1},
		"4 12 back 7 10 10 9 9": {Id: 4, Hour: 12, Kind: api.PostBack, Party: 7, Parcel: 10, Amount: 10, Reason: 9, Known: 9},
		"1000000 1000000 sale 10000007 1000000000 1000000 1000000":    {Id: 1000000, Hour: 1000000, Kind: api.PostSale, Parcel: 10000007, Amount: 1000000000, Reason: 1000000, Known: 1000000},
		"1000000 1000000 pay 40 10000007 1000000000 1000000 1000000":  {Id: 1000000, Hour: 1000000, Kind: api.PostPay, Party: 40, Parcel: 10000007, Amount: 1000000000, Reason: 1000000, Known: 1000000},
		"1000000 1000000 back 40 10000007 1000000000 1000000 1000000": {Id: 1000000, Hour: 1000000, Kind: api.PostBack, Party: 40, Parcel: 10000007, Amount: 1000000000, Reason: 1000000, Known: 1000000},
	} {
		if s, e := purse.Write(p); s != line || e != api.OK {
			t.Errorf("writing %+v: %q, error %d, want %q", p, s, e, line)
		}
		if q, e := purse.Read(line); q != p || e != api.OK {
			t.Errorf("reading %q: %+v, error %d", line, q, e)
		}
	}
}

// P7.1, G10: what is not well-formed has no line.
func TestWriteForm(t *testing.T) {
	for _, p := range []api.Posting{aSale, aPay, aBack} {
		for _, spoil := range []func(p *api.Posting){
			func(p *api.Posting) { p.Id = 0 }, func(p *api.Posting) { p.Hour = 2 }, func(p *api.Posting) { p.Kind = 0 }, func(p *api.Posting) { p.Kind = 4 }, func(p *api.Posting) { p.Kind = 255 },
			func(p *api.Posting) { p.Party = 41 }, func(p *api.Posting) { p.Parcel = 9 }, func(p *api.Posting) { p.Amount = 0 }, func(p *api.Posting) { p.Reason = 0 }, func(p *api.Posting) { p.Known = 9 },
			func(p *api.Posting) { *p = api.Posting{} }, func(p *api.Posting) { p.Kind, p.Party = api.PostSale, 7 },
		} {
			q := p
			spoil(&q)
			if s, e := purse.Write(q); s != "" || e != api.ErrArg {
				t.Errorf("writing %+v: %q, error %d", q, s, e)
			}
		}
	}
}

// checkUnread checks that a line is of no posting.
func checkUnread(t *testing.T, line string) {
	t.Helper()
	if p, e := purse.Read(line); e != api.ErrForm || p != (api.Posting{}) {
		t.Errorf("reading %q: %+v, error %d", line, p, e)
	}
}

// P7.1, G10, and P7.8: lines of no posting.
func TestReadForm(t *testing.T) {
	for _, s := range []string{
		"", " ", "1", "1 5", "1 5 ", "1 5 sale", "1 5 sale ", "1 5 pay", "1 5 back", "1 5 sale 10 1000 3", "1 5 sale 10 1000 3 ", "1 5 sale 10 1000 3 4 ", " 1 5 sale 10 1000 3 4", "1 5 sale 10 1000 3 4 5",
		"1  5 sale 10 1000 3 4", "1 5  sale 10 1000 3 4", "1 5 sale  10 1000 3 4", "1 5 sale 10 1000 3  4", "1 5 sale 0 10 1000 3 4", "1 5 sale 7 10 1000 3 4", "1 5  10 1000 3 4",
		"1 5 Sale 10 1000 3 4", "1 5 sales 10 1000 3 4", "1 5 sal 10 1000 3 4", "1 5 pay 10 1000 3 4", "1 5 back 10 1000 3 4", "1 5 void 10 1000 3 4", "1 5  7 10 1000 3 4", "1 5 1 10 1000 3 4", "1 sale 5 10 1000 3 4", "sale 1 5 10 1000 3 4", "1 5 10 sale 1000 3 4",
		"1 5 sale 10 1000 3 4\n", "1 5 sale 10 1000 3 4\r", "1 5 sale 10 1000 3\t4", "1\t5 sale 10 1000 3 4", "1 5 sale 10 1000 3 4\x00",
		"01 5 sale 10 1000 3 4", "1 05 sale 10 1000 3 4", "1 5 sale 010 1000 3 4", "1 5 sale 10 01000 3 4", "1 5 sale 10 1000 03 4", "1 5 sale 10 1000 3 04", "+1 5 sale 10 1000 3 4", "1 +5 sale 10 1000 3 4", "1 5 sale 10 1000 3 +4", "1 5 sale 10 1000 3 -0", "1 5 sale 10 1000 3 -1",
		"1 5 sale 10 1_000 3 4", "1 5 sale 0x0a 1000 3 4", "1 5 sale 10 1000 3 x", "x 5 sale 10 1000 3 4", "1 5 sale 10 1000.0 3 4", "1 5 sale 10 1e3 3 4", "1 5 sale 10 1000 \u0663 4",
		"0 5 sale 10 1000 3 4", "1000001 5 sale 10 1000 3 4", "1 3 sale 10 1000 3 4", "1 -1 sale 10 1000 3 0", "1 1000001 sale 10 1000 3 4", "1 5 sale 9 1000 3 4", "1 5 sale 10000008 1000 3 4", "1 5 sale 10 0 3 4", "1 5 sale 10 1000000001 3 4", "1 5 sale 10 -1000 3 4", "1 5 sale 10 1000 0 4", "1 5 sale 10 1000 1000001 4", "1 5 sale 10 1000 3 6",
		"1 5 pay 41 10 1000 3 4", "1 5 pay -1 10 1000 3 4", "1 5 pay -0 10 1000 3 4", "1 5 pay 07 10 1000 3 4", "1 5 pay  10 1000 3 4", "1 5 pay 7 10 1000 3", "1 5 pay 7 10 1000 3 4 5", "1 5 pay 7 10 1000 3 4 ", "1 5 pay 7 10 1000 3 ", "1 5 pays 7 10 1000 3 4", "1 5 pay x 10 1000 3 4",
		"1 5 back 41 10 1000 3 4", "1 5 back -1 10 1000 3 4", "1 5 back 7 10 1000 3", "1 5 back 7 10 1000 3 4 5", "1 5 Back 7 10 1000 3 4", "1 5 back 7 10 1000 3 6",
		"1 5 sale 10 99999999999999999999 3 4", "18446744073709551617 5 sale 10 1000 3 4", "1 5 pay 18446744073709551623 10 1000 3 4",
		strings.Repeat(" ", 6), strings.Repeat(" ", 7), strings.Repeat(" ", 1000), strings.Repeat("1 ", 1000), strings.Repeat("sale ", 8), "1 5 sale 10 1000 3 " + strings.Repeat("4", 1000),
	} {
		checkUnread(t, s)
	}
}

// spoiltLine returns a line that is changed at one place.
func spoiltLine(r *rand.Rand, line string) string {
	signs := "0123456789 -+salepybck\nA_"
	c := string(signs[r.IntN(len(signs))])
	i := r.IntN(len(line))
	return line[:i] + []string{c, "", c + line[i:i+1]}[r.IntN(3)] + line[i+1:]
}

// P7.8: lines that are spoilt at one place are read only if they are written like that.
func TestReadSpoilt(t *testing.T) {
	r := rand.New(rand.NewPCG(7, 8))
	lines := []string{"10 20 sale 30 40 5 6", "10 20 pay 7 30 40 5 6", "10 20 back 7 30 40 5 6", "10 20 pay 0 30 40 5 0"}
	read := 0
	for range 30000 {
		line := spoiltLine(r, lines[r.IntN(len(lines))])
		p, e := purse.Read(line)
		if e != api.OK {
			checkUnread(t, line)
			continue
		}
		read++
		if s, e := purse.Write(p); s != line || e != api.OK {
			t.Fatalf("writing what %q is read as: %q, error %d", line, s, e)
		}
	}
	if read < 3000 {
		t.Errorf("only %d lines were read", read)
	}
}

// P7.8: postings within their bounds.
func TestWriteInverted(t *testing.T) {
	r := rand.New(rand.NewPCG(7, 9))
	for range 20000 {
		p := api.Posting{Id: 1 + r.IntN(1000000), Hour: r.IntN(1000001), Kind: uint8(1 + r.IntN(3)), Parcel: 10 + r.IntN(9999998), Amount: 1 + r.IntN(1000000000), Reason: 1 + r.IntN(1000000)}
		p.Known = r.IntN(p.Hour + 1)
		if p.Kind != api.PostSale {
			p.Party = r.IntN(41)
		}
		s, e := purse.Write(p)
		if q, g := purse.Read(s); p != q || e != api.OK || g != api.OK {
			t.Fatalf("%+v: %q, error %d; %+v, error %d", p, s, e, q, g)
		}
	}
}
