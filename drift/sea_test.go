package drift_test

import (
	"math/rand/v2"
	"reflect"
	"strings"
	"testing"

	"lagan/api"
	"lagan/drift"
)

// greatest is a sea with as much of everything as there can be.
func greatest() api.Sea {
	s := api.Sea{Cells: 40, Bands: 6}
	for i := range 40 {
		s.Heights = append(s.Heights, i%10)
	}
	for i := range 30 {
		s.Tides = append(s.Tides, api.Tide{Along: i%7 - 3, Height: i % 10})
	}
	return s
}

// P2.1, B1: each field within its bounds.
func TestCheckSea(t *testing.T) {
	for _, c := range []struct {
		what   string
		change func(*api.Sea)
		want   api.Errno
	}{
		{"as it is", func(s *api.Sea) {}, api.OK},
		{"41 cells", func(s *api.Sea) { s.Cells, s.Heights = 41, make([]int, 41) }, api.ErrArg},
		{"no cells", func(s *api.Sea) { s.Cells, s.Heights = 0, nil }, api.ErrArg},
		{"1 cell", func(s *api.Sea) { s.Cells, s.Heights = 1, []int{9} }, api.OK},
		{"-1 cells", func(s *api.Sea) { s.Cells, s.Heights = -1, nil }, api.ErrArg},
		{"a height too few", func(s *api.Sea) { s.Heights = s.Heights[:39] }, api.ErrArg},
		{"a height too many", func(s *api.Sea) { s.Heights = append(s.Heights, 1) }, api.ErrArg},
		{"no heights", func(s *api.Sea) { s.Heights = nil }, api.ErrArg},
		{"bands 0", func(s *api.Sea) { s.Bands = 0 }, api.ErrArg},
		{"bands 1", func(s *api.Sea) { s.Bands = 1 }, api.OK},
		{"bands 7", func(s *api.Sea) { s.Bands = 7 }, api.ErrArg},
		{"height -1", func(s *api.Sea) { s.Heights[39] = -1 }, api.ErrArg},
		{"height 0", func(s *api.Sea) { s.Heights[39] = 0 }, api.OK},
		{"height 9", func(s *api.Sea) { s.Heights[0] = 9 }, api.OK},
		{"height 10", func(s *api.Sea) { s.Heights[0] = 10 }, api.ErrArg},
		{"no tides", func(s *api.Sea) { s.Tides = nil }, api.ErrArg},
		{"1 tide", func(s *api.Sea) { s.Tides = s.Tides[:1] }, api.OK},
		{"31 tides", func(s *api.Sea) { s.Tides = append(s.Tides, api.Tide{}) }, api.ErrArg},
		{"along -4", func(s *api.Sea) { s.Tides[29].Along = -4 }, api.ErrArg},
		{"along -3", func(s *api.Sea) { s.Tides[29].Along = -3 }, api.OK},
		{"along 3", func(s *api.Sea) { s.Tides[0].Along = 3 }, api.OK},
		{"along 4", func(s *api.Sea) { s.Tides[0].Along = 4 }, api.ErrArg},
		{"tide's height -1", func(s *api.Sea) { s.Tides[0].Height = -1 }, api.ErrArg},
		{"tide's height 0", func(s *api.Sea) { s.Tides[0].Height = 0 }, api.OK},
		{"tide's height 9", func(s *api.Sea) { s.Tides[29].Height = 9 }, api.OK},
		{"tide's height 10", func(s *api.Sea) { s.Tides[29].Height = 10 }, api.ErrArg},
	} {
		s := greatest()
		c.change(&s)
		if e := drift.CheckSea(s); e != c.want {
			t.Errorf("%s: error %d, want %d", c.what, e, c.want)
		}
		src := drift.PrintSea(s)
		if (src == "") != (c.want != api.OK) {
			t.Errorf("PrintSea, %s: %q", c.what, src)
		}
		if back, fault := drift.ParseSea(src); c.want == api.OK && (!reflect.DeepEqual(back, s) || fault != api.Fault{}) {
			t.Errorf("ParseSea, %s: %v, %v", c.what, back, fault)
		}
	}
	if e := drift.CheckSea(api.Sea{}); e != api.ErrArg {
		t.Errorf("CheckSea of nothing: error %d", e)
	}
}

// P2.1, B1: sources, and what is to be left out of them.
func TestParseSea(t *testing.T) {
	want := api.Sea{Cells: 2, Bands: 3, Heights: []int{0, 9}, Tides: []api.Tide{{Along: -3, Height: 0}, {Along: 2, Height: 9}}}
	plain := "sea 2 3\nheights 0 9\ntide -3 0\ntide 2 9\n"
	for _, src := range []string{
		plain,
		strings.TrimSuffix(plain, "\n"),
		"\n\n" + plain + "\n\n",
		"#\n# a coast\n#sea 9 9\nsea 2 3\n\nheights 0 9\n#tide 1 1\ntide -3 0\n\ntide 2 9\n# end",
		plain + "#" + strings.Repeat("x", 20000-1-len(plain)),
	} {
		if s, fault := drift.ParseSea(src); !reflect.DeepEqual(s, want) || fault != (api.Fault{}) {
			t.Errorf("ParseSea(%.60q): %v, %v", src, s, fault)
		}
	}
	if src := drift.PrintSea(want); src != plain {
		t.Errorf("PrintSea: %q", src)
	}
}

// P2.1, B1: each fault, and its line.
func TestParseSeaFaults(t *testing.T) {
	form, arg := api.ErrForm, api.ErrArg
	for _, c := range []struct {
		src  string
		err  api.Errno
		line int
	}{
		{"", form, 0},
		{"\n\n# nothing\n", form, 0},
		{"sea 2 3", form, 0},
		{"sea 2 3\nheights 1 1\n", form, 0},
		{"sea 41 3\n", form, 0},
		{"heights 1 1", form, 1},
		{"tide 1 1", form, 1},
		{"sea 2 3\ntide 1 1", form, 2},
		{"\n# one\nsea 2 3\n\nsea 2 3\nheights 1 1\ntide 1 1", form, 5},
		{"sea 2 3\nheights 1 1\nheights 1 1\ntide 1 1", form, 3},
		{"sea 2 3\nheights 1 1\ntide 1 1\nheights 1 1", form, 4},
		{"sea 2 3\nheights 1 1\ntide 1 1\nsea 2 3", form, 4},
		{"sea 2 3\nheights 1 1\ntide 1 1\ntide 1 1 1", form, 4},
		{"sea 2 3\nheights 1\ntide 1 1", form, 2},
		{"sea 2 3\nheights 1 1 1\ntide 1 1", form, 2},
		{"sea 2 3\nheights\ntide 1 1", form, 2},
		{"sea 999999 3\nheights 1 1\ntide 1 1", form, 2},
		{"sea 2 3\nheights 1 1\ntide 1", form, 3},
		{"sea 2 3\nheights 1 1\ntide", form, 3},
		{"sea 2\nheights 1 1\ntide 1 1", form, 1},
		{"sea 2 3 4\nheights 1 1\ntide 1 1", form, 1},
		{"sea", form, 1},
		{"Sea 2 3\nheights 1 1\ntide 1 1", form, 1},
		{"seas 2 3\nheights 1 1\ntide 1 1", form, 1},
		{" sea 2 3\nheights 1 1\ntide 1 1", form, 1},
		{"sea  2 3\nheights 1 1\ntide 1 1", form, 1},
		{"sea 2 3 \nheights 1 1\ntide 1 1", form, 1},
		{"sea 2 3\r\nheights 1 1\r\ntide 1 1\r\n", form, 1},
		{"sea\t2 3\nheights 1 1\ntide 1 1", form, 1},
		{"sea 2 3\n \nheights 1 1\ntide 1 1", form, 2},
		{"sea 2 3\n # one\nheights 1 1\ntide 1 1", form, 2},
		{"sea 02 3\nheights 1 1\ntide 1 1", form, 1},
		{"sea 2 +3\nheights 1 1\ntide 1 1", form, 1},
		{"sea -2 3\nheights 1 1\ntide 1 1", form, 1},
		{"sea 2 -0\nheights 1 1\ntide 1 1", form, 1},
		{"sea 2 x\nheights 1 1\ntide 1 1", form, 1},
		{"sea 2 3\nheights 1 -1\ntide 1 1", form, 2},
		{"sea 2 3\nheights 1 00\ntide 1 1", form, 2},
		{"sea 2 3\nheights 1 1\ntide -0 1", form, 3},
		{"sea 2 3\nheights 1 1\ntide -01 1", form, 3},
		{"sea 2 3\nheights 1 1\ntide +1 1", form, 3},
		{"sea 2 3\nheights 1 1\ntide - 1", form, 3},
		{"sea 2 3\nheights 1 1\ntide --1 1", form, 3},
		{"sea 2 3\nheights 1 1\ntide 1 -1", form, 3},
		{"sea 2 3\nheights 1 1\ntide 1000000 1", form, 3},
		{"sea 2 3\nheights 1 1\ntide -1000000 1", form, 3},
		{"sea 2 3\nheights 1 1\ntide 1 1000000", form, 3},
		{"sea 2 1000000\nheights 1 1\ntide 1 1", form, 1},
		{"sea 2 99999999999999999999\nheights 1 1\ntide 1 1", form, 1},
		{"sea 2 3\nheights 1 0x1\ntide 1 1", form, 2},
		{"sea 2 3\nheights 1 1_0\ntide 1 1", form, 2},
		{"sea 2 3\nheights 1 \u0661\ntide 1 1", form, 2},
		{"sea 9 9\nheights 1 1\ntide 1 1", form, 2},
		{"sea 0 3\nheights\ntide 1 1", arg, 0},
		{"sea 0 3\nheights \ntide 1 1", form, 2},
		{"sea 2 999999\nheights 1 1\ntide 1 1", arg, 0},
		{"sea 2 7\nheights 1 1\ntide 1 1", arg, 0},
		{"sea 2 0\nheights 1 1\ntide 1 1", arg, 0},
		{"sea 2 3\nheights 1 10\ntide 1 1", arg, 0},
		{"sea 2 3\nheights 999999 1\ntide 1 1", arg, 0},
		{"sea 2 3\nheights 1 1\ntide 4 1", arg, 0},
		{"sea 2 3\nheights 1 1\ntide -999999 1", arg, 0},
		{"sea 2 3\nheights 1 1\ntide 999999 1", arg, 0},
		{"sea 2 3\nheights 1 1\ntide 1 10", arg, 0},
		{"sea 2 7\nheights 1 1\ntide 1 1\nsea", form, 4},
		{"sea 41 3\nheights" + strings.Repeat(" 1", 41) + "\ntide 1 1", arg, 0},
		{"sea 2 3\nheights 1 1" + strings.Repeat("\ntide 1 1", 30), api.OK, 0},
		{"sea 2 3\nheights 1 1" + strings.Repeat("\ntide 1 1", 31), arg, 0},
		{"sea 2 3\nheights 1 1\ntide 1 1\n" + strings.Repeat("#", 20001-29), api.ErrLimit, 0},
		{strings.Repeat("\n", 20001), api.ErrLimit, 0},
		{strings.Repeat("\n", 20000), form, 0},
		{strings.Repeat("x", 20001), api.ErrLimit, 0},
	} {
		s, fault := drift.ParseSea(c.src)
		if fault != (api.Fault{Err: c.err, Line: c.line}) {
			t.Errorf("ParseSea(%.60q): %v, want error %d, line %d", c.src, fault, c.err, c.line)
		}
		if c.err != api.OK && !reflect.DeepEqual(s, api.Sea{}) {
			t.Errorf("ParseSea(%.60q): %v beside an error", c.src, s)
		}
	}
}

// P2.8: ParseSea inverts PrintSea, and PrintSea inverts ParseSea but for lines that do nothing.
func TestSeaTexts(t *testing.T) {
	r := rand.New(rand.NewPCG(2, 8))
	for range 500 {
		s := randomSea(r, 40, 6)
		src := drift.PrintSea(s)
		if back, fault := drift.ParseSea(src); !reflect.DeepEqual(back, s) || fault != (api.Fault{}) {
			t.Fatalf("ParseSea(%q): %v, %v", src, back, fault)
		}
	}
	signs, parsed := "0123456789 -+seahightd#\n", 0
	for range 20000 {
		b := spoilt(r, "sea 2 3\nheights 4 5\ntide -2 6\ntide 0 7\n", signs)
		var plain string
		for line := range strings.Lines(b) {
			if line != "\n" && line[0] != '#' {
				plain += strings.TrimSuffix(line, "\n") + "\n"
			}
		}
		s, fault := drift.ParseSea(b)
		if fault == (api.Fault{}) {
			parsed++
			if src := drift.PrintSea(s); src != plain {
				t.Fatalf("ParseSea(%q), PrintSea: %q", b, src)
			}
		} else if !reflect.DeepEqual(s, api.Sea{}) || fault.Err != api.ErrForm && fault != (api.Fault{Err: api.ErrArg}) {
			t.Fatalf("ParseSea(%q): %v, %v", b, s, fault)
		}
	}
	if parsed < 1000 {
		t.Errorf("only %d sources were read", parsed)
	}
}
