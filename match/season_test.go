package match_test

import (
	"math"
	"slices"
	"strings"
	"testing"

	"lagan/api"
	"lagan/match"
)

// season is one with two losses and three floats.
func season(t testing.TB) api.Season {
	second := lossX()
	second.Id = 4
	return api.Season{Sea: seaS(t), Losses: []api.Loss{lossX(), second},
		Floats: []api.Float{{Goods: "cork", Float: 2}, {Goods: "iron", Float: 1}, {Goods: "wool", Float: 2}}}
}

// losses returns so many losses, with the Ids from 1 on.
func losses(n int) []api.Loss {
	var out []api.Loss
	for i := range n {
		x := lossX()
		x.Id = i + 1
		out = append(out, x)
	}
	return out
}

// floats returns so many floats, with names that ascend.
func floats(n int) []api.Float {
	var out []api.Float
	for i := range n {
		out = append(out, api.Float{Goods: "g" + strings.Repeat("x", i/2) + string(rune('0'+i%2)), Float: 2})
	}
	slices.SortFunc(out, func(a, b api.Float) int { return strings.Compare(a.Goods, b.Goods) })
	return out
}

func named(names ...string) []api.Float {
	var out []api.Float
	for _, name := range names {
		out = append(out, api.Float{Goods: name, Float: 1})
	}
	return out
}

// P4.1, D1: each error of a season, and what is as said.
func TestCheckSeason(t *testing.T) {
	for _, c := range []struct {
		what   string
		change func(c *api.Season)
		want   api.Errno
	}{
		{"as it is", func(c *api.Season) {}, api.OK},
		{"no losses", func(c *api.Season) { c.Losses = nil }, api.OK},
		{"empty losses", func(c *api.Season) { c.Losses = []api.Loss{} }, api.OK},
		{"no floats", func(c *api.Season) { c.Floats = nil }, api.OK},
		{"20 losses", func(c *api.Season) { c.Losses = losses(20) }, api.OK},
		{"21 losses", func(c *api.Season) { c.Losses = losses(21) }, api.ErrLimit},
		{"21 losses, the first one wrong", func(c *api.Season) { c.Losses = losses(21); c.Losses[0].Id = 0 }, api.ErrLimit},
		{"30 floats", func(c *api.Season) { c.Floats = append(floats(15), named(names(15)...)...) }, api.OK},
		{"31 floats", func(c *api.Season) { c.Floats = append(floats(15), named(names(16)...)...) }, api.ErrLimit},
		{"31 floats, and a wrong loss", func(c *api.Season) { c.Losses[0].Id, c.Floats = 0, make([]api.Float, 31) }, api.ErrLimit},
		{"21 losses, and no sea", func(c *api.Season) { c.Sea, c.Losses = api.Sea{}, losses(21) }, api.ErrArg},
		{"31 floats, and no sea", func(c *api.Season) { c.Sea.Heights, c.Floats = nil, make([]api.Float, 31) }, api.ErrArg},
		{"no sea", func(c *api.Season) { *c = api.Season{} }, api.ErrArg},
		{"a sea alone", func(c *api.Season) { *c = api.Season{Sea: c.Sea} }, api.OK},
		{"a beach too high", func(c *api.Season) { c.Sea.Heights[4] = 10 }, api.ErrArg},
		{"a loss beyond the sea", func(c *api.Season) { c.Losses[1].Cells.High = 5 }, api.ErrArg},
		{"a loss on the beach", func(c *api.Season) { c.Losses[1].Bands.Low = 0 }, api.ErrArg},
		{"a loss beyond the bands", func(c *api.Season) { c.Losses[0].Bands.High = 3 }, api.ErrArg},
		{"a loss too late", func(c *api.Season) { c.Losses[0].Hours.High = 1000001 }, api.ErrArg},
		{"Id 0", func(c *api.Season) { c.Losses[0].Id = 0 }, api.ErrArg},
		{"Id 20", func(c *api.Season) { c.Losses[1].Id = 20 }, api.OK},
		{"Id 21", func(c *api.Season) { c.Losses[1].Id = 21 }, api.ErrArg},
		{"equal Ids", func(c *api.Season) { c.Losses[1].Id = 1 }, api.ErrArg},
		{"descending Ids", func(c *api.Season) { slices.Reverse(c.Losses) }, api.ErrArg},
		{"float 0", func(c *api.Season) { c.Floats[1].Float = 0 }, api.ErrArg},
		{"float 3", func(c *api.Season) { c.Floats[1].Float = 3 }, api.ErrArg},
		{"float 255", func(c *api.Season) { c.Floats[2].Float = 255 }, api.ErrArg},
		{"no goods", func(c *api.Season) { c.Floats[0].Goods = "" }, api.ErrArg},
		{"equal goods", func(c *api.Season) { c.Floats[1].Goods = "cork" }, api.ErrArg},
		{"equal goods, different floats", func(c *api.Season) { c.Floats[0].Goods = "iron" }, api.ErrArg},
		{"descending goods", func(c *api.Season) { slices.Reverse(c.Floats) }, api.ErrArg},
		{"the last two descending", func(c *api.Season) { c.Floats[2].Goods = "hemp" }, api.ErrArg},
		{"goods in the order of their bytes", func(c *api.Season) { c.Floats = named("a", "a-", "a0", "aa", "b") }, api.OK},
		{"digits before hyphens", func(c *api.Season) { c.Floats = named("a0", "a-") }, api.ErrArg},
		{"letters before digits", func(c *api.Season) { c.Floats = named("aa", "a0") }, api.ErrArg},
		{"longer goods first", func(c *api.Season) { c.Floats = named("ab", "a") }, api.ErrArg},
		{"24 bytes", func(c *api.Season) { c.Floats = named(strings.Repeat("z", 24)) }, api.OK},
		{"25 bytes", func(c *api.Season) { c.Floats = named(strings.Repeat("z", 25)) }, api.ErrArg},
		{"a digit first", func(c *api.Season) { c.Floats = named("0a") }, api.ErrArg},
		{"a hyphen first", func(c *api.Season) { c.Floats = named("-a") }, api.ErrArg},
		{"a hyphen last", func(c *api.Season) { c.Floats = named("a-") }, api.OK},
		{"a capital letter", func(c *api.Season) { c.Floats = named("aB") }, api.ErrArg},
		{"a blank", func(c *api.Season) { c.Floats = named("a b") }, api.ErrArg},
		{"a sign of a mark", func(c *api.Season) { c.Floats = named("a?") }, api.ErrArg},
		{"a letter of two bytes", func(c *api.Season) { c.Floats = named("\u00e4") }, api.ErrArg},
	} {
		s := season(t)
		c.change(&s)
		if e := match.CheckSeason(s); e != c.want {
			t.Errorf("%s: error %d, want %d", c.what, e, c.want)
		}
	}
}

// names returns so many names behind those of floats.
func names(n int) []string {
	var out []string
	for i := range n {
		out = append(out, "h"+string(rune('a'+i)))
	}
	return out
}

// P4.1, D1: goods float as the first entry says, and deep if there is none, also in a season that is not as said.
func TestFloatOf(t *testing.T) {
	s := season(t)
	for goods, want := range map[string]uint8{"cork": 2, "iron": 1, "wool": 2, "oil": 1, "": 1, "wo": 1, "wool-": 1, "Cork": 1} {
		if f := match.FloatOf(s, goods); f != want {
			t.Errorf("FloatOf(%q): %d, want %d", goods, f, want)
		}
	}
	if f := match.FloatOf(api.Season{}, "cork"); f != 1 {
		t.Errorf("FloatOf without floats: %d", f)
	}
	twice := api.Season{Floats: []api.Float{{Goods: "wool", Float: 2}, {Goods: "cork", Float: 1}, {Goods: "cork", Float: 2}, {Goods: "wool", Float: 1}}}
	for goods, want := range map[string]uint8{"wool": 2, "cork": 1, "iron": 1} {
		if f := match.FloatOf(twice, goods); f != want {
			t.Errorf("FloatOf(%q) of several: %d, want %d", goods, f, want)
		}
	}
}

// R1: any numbers in a season are no more than errors.
func TestSeasonOfAnyNumbers(t *testing.T) {
	for _, n := range []int{math.MinInt, -1, math.MaxInt} {
		s := season(t)
		s.Sea.Cells = n
		wrong := []api.Season{s}
		s = season(t)
		s.Losses[0] = api.Loss{Id: n, Cells: api.Range{Low: n, High: n}, Bands: api.Range{Low: n, High: n}, Hours: api.Range{Low: n, High: n}}
		wrong = append(wrong, s)
		s = season(t)
		s.Losses[1].Hours.Low = n
		for _, s := range append(wrong, s) {
			if e := match.CheckSeason(s); e != api.ErrArg {
				t.Errorf("CheckSeason with %d: error %d", n, e)
			}
		}
	}
}
