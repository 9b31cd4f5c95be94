package inquiry_test

import (
	"math"
	"math/rand/v2"
	"slices"
	"strings"
	"testing"

	"lagan/api"
	"lagan/drift"
	"lagan/inquiry"
)

// P9.1, I1: the parts of a source, wherever its lines stand.
func TestParseSeason(t *testing.T) {
	want := api.Season{
		Sea: api.Sea{Cells: 2, Bands: 1, Heights: []int{0, 0}, Tides: []api.Tide{{}}},
		Losses: []api.Loss{
			{Id: 1, Bands: api.Range{Low: 1, High: 1}},
			{Id: 20, Cells: api.Range{Low: 0, High: 1}, Bands: api.Range{Low: 1, High: 1}, Hours: api.Range{Low: 7, High: 1000000}},
		},
		Floats: []api.Float{{Goods: "cork", Float: 2}, {Goods: "loss", Float: 1}},
	}
	for _, src := range []string{
		"sea 2 1\nheights 0 0\ntide 0 0\nloss 1 0 0 1 1 0 0\nloss 20 0 1 1 1 7 1000000\nfloat cork high\nfloat loss deep\n",
		"sea 2 1\nheights 0 0\ntide 0 0\nloss 1 0 0 1 1 0 0\nloss 20 0 1 1 1 7 1000000\nfloat cork high\nfloat loss deep",
		"loss 1 0 0 1 1 0 0\nfloat cork high\nsea 2 1\n# float wool high\n\nloss 20 0 1 1 1 7 1000000\nheights 0 0\nfloat loss deep\ntide 0 0\n",
		"#\nfloat cork high\nfloat loss deep\nloss 1 0 0 1 1 0 0\nloss 20 0 1 1 1 7 1000000\nsea 2 1\nheights 0 0\ntide 0 0\n\n",
	} {
		if c, fault := inquiry.ParseSeason(src); !alike(c, want) || fault != (api.Fault{}) {
			t.Errorf("%q: %+v, fault %+v", src, c, fault)
		}
	}
	c, fault := inquiry.ParseSeason("sea 2 1\nheights 0 0\ntide 0 0")
	if !alike(c, api.Season{Sea: want.Sea}) || fault != (api.Fault{}) {
		t.Errorf("a sea alone: %+v, fault %+v", c, fault)
	}
}

// P9.1, I1: lines that do not have their form, by their numbers.
func TestSeasonLines(t *testing.T) {
	for _, line := range []string{
		"loss", "loss ", "float", "float ", "loss 1 0 0 1 1 0", "loss 1 0 0 1 1 0 0 0", "loss 1 0 0 1 1 0 0 ", "loss  1 0 0 1 1 0 0",
		"loss 1 0 0 1 1  0 0", "loss 01 0 0 1 1 0 0", "loss +1 0 0 1 1 0 0", "loss -1 0 0 1 1 0 0", "loss 1 -0 0 1 1 0 0", "loss 1 0 0 1 1 0 00",
		"loss 1 0 0 1 1 0 10000000", "loss 1 0 0 1 1 0 99999999999999999999", "loss 1 0 0 1 1 0 x", "loss 1 0 0 1 1 0 0\r", "loss 1\t0 0 1 1 0 0 0",
		"float cork", "float cork high ", "float cork high 2", "float  cork high", "float cork  high", "float  high", "float cork High", "float cork 2", "float cork deeper",
		"float high", "float cork high\r",
	} {
		// Another line without its form, behind the first one, and a loss that is none do not matter.
		src := "sea 2 1\nheights 0 0\n# loss\ntide 0 0\nloss 9 9 9 9 9 9 9\n" + line + "\n\nfloat\nloss 0"
		if c, fault := inquiry.ParseSeason(src); !alike(c, api.Season{}) || fault != (api.Fault{Err: api.ErrForm, Line: 6}) {
			t.Errorf("%q: %+v, fault %+v", line, c, fault)
		}
	}
}

// P9.1, I1: each fault of a season, and their order.
func TestSeasonFaults(t *testing.T) {
	sea := "sea 2 1\nheights 0 0\ntide 0 0\n"
	many := func(line string, n int) string { return strings.Repeat(line+"\n", n) }
	for _, c := range []struct {
		what, src string
		want      api.Fault
	}{
		{"nothing", "", api.Fault{Err: api.ErrForm}},
		{"losses without a sea", "loss 1 0 0 1 1 0 0\n", api.Fault{Err: api.ErrForm}},
		{"no sea, and a line without its form", "loss\nsea 2 1\nheights 0 0\n", api.Fault{Err: api.ErrForm}},
		{"a sea without its form, behind a loss without its form", "loss\nsea 2\n", api.Fault{Err: api.ErrForm, Line: 2}},
		{"another line of the sea, before a loss without its form", sea + "tide 0\nloss", api.Fault{Err: api.ErrForm, Line: 4}},
		{"another word", sea + "losses 1 0 0 1 1 0 0", api.Fault{Err: api.ErrForm, Line: 4}},
		{"another beginning", sea + " loss 1 0 0 1 1 0 0", api.Fault{Err: api.ErrForm, Line: 4}},
		{"a tab behind the word", sea + "loss\t1 0 0 1 1 0 0", api.Fault{Err: api.ErrForm, Line: 4}},
		{"a greater word", sea + "floats cork high", api.Fault{Err: api.ErrForm, Line: 4}},
		{"a capital letter", sea + "Float cork high", api.Fault{Err: api.ErrForm, Line: 4}},
		{"a wrong sea, and a loss without its form", "loss\nsea 2 1\nheights 0 10\ntide 0 0\n", api.Fault{Err: api.ErrArg}},
		{"a wrong loss, and a float without its form", sea + "loss 0 0 0 1 1 0 0\nfloat", api.Fault{Err: api.ErrForm, Line: 5}},
		{"a wrong loss", sea + "loss 0 0 0 1 1 0 0\n", api.Fault{Err: api.ErrArg}},
		{"a loss beyond the sea", sea + "loss 1 0 2 1 1 0 0\n", api.Fault{Err: api.ErrArg}},
		{"a loss too late, with 7 digits", sea + "loss 1 0 0 1 1 0 9999999\n", api.Fault{Err: api.ErrArg}},
		{"losses that descend", sea + "loss 2 0 0 1 1 0 0\nloss 1 0 0 1 1 0 0", api.Fault{Err: api.ErrArg}},
		{"a loss twice", sea + many("loss 2 0 0 1 1 0 0", 2), api.Fault{Err: api.ErrArg}},
		{"21 losses", sea + many("loss 1 0 0 1 1 0 0", 21), api.Fault{Err: api.ErrLimit}},
		{"31 floats", sea + many("float cork high", 31), api.Fault{Err: api.ErrLimit}},
		{"a float twice", sea + many("float cork high", 2), api.Fault{Err: api.ErrArg}},
		{"goods that are no name", sea + "float Cork high", api.Fault{Err: api.ErrArg}},
		{"goods with a tab", sea + "float co\trk high", api.Fault{Err: api.ErrArg}},
		{"20000 bytes", sea + strings.Repeat("#", 20000-len(sea)), api.Fault{}},
		{"20001 bytes", sea + strings.Repeat("#", 20001-len(sea)), api.Fault{Err: api.ErrLimit}},
		{"20001 bytes, most of them of a loss", "loss" + strings.Repeat(" ", 19997), api.Fault{Err: api.ErrLimit}},
	} {
		s, fault := inquiry.ParseSeason(c.src)
		if fault != c.want || fault.Err != api.OK && !alike(s, api.Season{}) {
			t.Errorf("%s: %+v, fault %+v, want %+v", c.what, s, fault, c.want)
		}
	}
}

// randomSeason returns a season that is as said, most of the time.
func randomSeason(r *rand.Rand) api.Season {
	c := api.Season{Sea: api.Sea{Cells: 1 + r.IntN(40), Bands: 1 + r.IntN(6)}}
	for range c.Sea.Cells {
		c.Sea.Heights = append(c.Sea.Heights, r.IntN(10))
	}
	for range 1 + r.IntN(30) {
		c.Sea.Tides = append(c.Sea.Tides, api.Tide{Along: r.IntN(7) - 3, Height: r.IntN(10)})
	}
	span := func(low, high int) api.Range {
		a := low + r.IntN(high-low+1)
		return api.Range{Low: a, High: a + r.IntN(high-a+1)}
	}
	for id := 1; id <= 20; id++ {
		if r.IntN(3) == 0 {
			c.Losses = append(c.Losses, api.Loss{Id: id, Cells: span(0, c.Sea.Cells-1), Bands: span(1, c.Sea.Bands), Hours: span(0, 1000000)})
		}
	}
	for _, goods := range []string{"a", "a-", "a0", "deep", "float", "high", "loss", "sea", "z"} {
		if r.IntN(2) == 0 {
			c.Floats = append(c.Floats, api.Float{Goods: goods, Float: uint8(1 + r.IntN(2))})
		}
	}
	return c
}

// P9.8: ParseSeason inverts PrintSeason; a season that is none has no source.
func TestPrintSeason(t *testing.T) {
	if s := inquiry.PrintSeason(seasonC(t)); s != sourceC {
		t.Errorf("the example: %q", s)
	}
	r := rand.New(rand.NewPCG(9, 1))
	for range 300 {
		c := randomSeason(r)
		src := inquiry.PrintSeason(c)
		if got, fault := inquiry.ParseSeason(src); src == "" || !alike(got, c) || fault != (api.Fault{}) {
			t.Errorf("%q: %+v, fault %+v", src, got, fault)
		}
		if !strings.HasPrefix(src, drift.PrintSea(c.Sea)) {
			t.Errorf("the sea is not first: %q", src)
		}
	}
	for _, n := range []int{-1, 0, math.MinInt, math.MaxInt} {
		c := seasonC(t)
		c.Losses[0].Id = n
		d := seasonC(t)
		d.Sea.Bands = n
		e := seasonC(t)
		e.Floats = []api.Float{{Goods: "cork", Float: uint8(n)}, {Goods: "cork", Float: 1}}
		if a, b, c := inquiry.PrintSeason(c), inquiry.PrintSeason(d), inquiry.PrintSeason(e); a+b+c != "" {
			t.Errorf("seasons with %d: %q, %q, %q", n, a, b, c)
		}
	}
	if s := inquiry.PrintSeason(api.Season{}); s != "" {
		t.Errorf("no season: %q", s)
	}
}

// R1: no source is more than a fault, with the number of a line, or 0.
func TestSeasonOfAnyBytes(t *testing.T) {
	r := rand.New(rand.NewPCG(9, 2))
	for range 2000 {
		src := []byte("sea 2 1\nheights 0 0\ntide 0 0\nloss 1 0 0 1 1 0 0\nfloat cork high\n")
		for range 1 + r.IntN(3) {
			at := r.IntN(len(src))
			switch r.IntN(3) {
			case 0:
				src[at] = byte(r.IntN(256))
			case 1:
				src = slices.Delete(src, at, at+1)
			case 2:
				src = slices.Insert(src, at, []byte(" \n0#-")[r.IntN(5)])
			}
		}
		c, fault := inquiry.ParseSeason(string(src))
		if fault.Line < 0 || fault.Line > 9 || fault.Err == api.OK && inquiry.PrintSeason(c) == "" {
			t.Errorf("%q: %+v, fault %+v", src, c, fault)
		}
	}
}
