package coast_test

import (
	"math"
	"strings"
	"testing"

	"lagan/api"
	"lagan/coast"
	"lagan/inquiry"
)

// P10.1, K1: what a setup can be.
func TestNew(t *testing.T) {
	for _, x := range []api.Setup{{Stations: 2, Sectors: 1000}, {Stations: 3, Sectors: 1001}, {Stations: 5, Sectors: 65536}} {
		c := coastWith(t, x.Stations, x.Sectors, source)
		for s := range x.Stations {
			same(t, "the records of a new station", c.Records(s), nil)
			does(t, "Stop", c.Stop(s, 5), api.OK)
			want, _ := inquiry.ParseSeason(source)
			same(t, "the books of a new station", c.Books(s), api.Books{Season: want})
		}
		does(t, "Stop of no station", c.Stop(x.Stations, 5), api.ErrArg)
		if now := c.Now(); now != 0 {
			t.Errorf("Now: %d", now)
		}
	}
}

// P10.1, K1: the errors of New, in their order.
func TestNewErrors(t *testing.T) {
	long := strings.Repeat("#\n", 10001)
	for _, x := range []struct {
		setup api.Setup
		want  api.Errno
	}{
		{api.Setup{Stations: 1, Sectors: 4000, Season: source}, api.ErrArg},
		{api.Setup{Stations: 1, Sectors: 4000, Season: "sea"}, api.ErrArg},
		{api.Setup{Stations: 6, Sectors: 4000, Season: source}, api.ErrArg},
		{api.Setup{Stations: 6, Sectors: 4000, Season: "sea"}, api.ErrArg},
		{api.Setup{Stations: 0, Sectors: 4000, Season: "sea"}, api.ErrArg},
		{api.Setup{Stations: math.MinInt, Sectors: 4000, Season: source}, api.ErrArg},
		{api.Setup{Stations: math.MaxInt, Sectors: 4000, Season: source}, api.ErrArg},
		{api.Setup{Stations: 2, Sectors: 999, Season: source}, api.ErrArg},
		{api.Setup{Stations: 2, Sectors: 65537, Season: source}, api.ErrArg},
		{api.Setup{Stations: 2, Sectors: 999, Season: "sea"}, api.ErrArg},
		{api.Setup{Stations: 2, Sectors: math.MinInt, Season: source}, api.ErrArg},
		{api.Setup{Stations: 2, Sectors: math.MaxInt, Season: source}, api.ErrArg},
		{api.Setup{Stations: 2, Sectors: 65537, Season: long}, api.ErrArg},
		{api.Setup{Stations: 2, Sectors: 4000, Season: long}, api.ErrLimit},
		{api.Setup{Stations: 2, Sectors: 4000}, api.ErrForm},
		{api.Setup{Stations: 2, Sectors: 4000, Season: source + "loss 2\n"}, api.ErrForm},
		{api.Setup{Stations: 2, Sectors: 4000, Season: source + "loss 1 0 0 1 1 0 0\n"}, api.ErrArg},
	} {
		if c, e := coast.New(x.setup); c != nil || e != x.want {
			t.Errorf("New of %d stations, %d sectors: %v, error %d, want %d", x.setup.Stations, x.setup.Sectors, c, e, x.want)
		}
	}
}

// P10.1, K1: hours pass, and never back.
func TestPass(t *testing.T) {
	c := newCoast(t, 2)
	for _, x := range []struct {
		hour, now int
		want      api.Errno
	}{
		{-1, 0, api.ErrArg}, {1000001, 0, api.ErrArg}, {math.MinInt, 0, api.ErrArg}, {math.MaxInt, 0, api.ErrArg},
		{0, 0, api.OK}, {7, 7, api.OK}, {7, 7, api.OK}, {6, 7, api.ErrTime}, {0, 7, api.ErrTime}, {-1, 7, api.ErrArg},
		{1000000, 1000000, api.OK}, {1000001, 1000000, api.ErrArg}, {999999, 1000000, api.ErrTime},
	} {
		does(t, "Pass", c.Pass(x.hour), x.want)
		if now := c.Now(); now != x.now {
			t.Errorf("Now behind Pass(%d): %d, want %d", x.hour, now, x.now)
		}
	}
}

// P10.1: a coast keeps its setup's season, and shares nothing with another one of the same setup.
func TestCoastsAreApart(t *testing.T) {
	a, b := newCoast(t, 2), newCoast(t, 2)
	passes(t, a, 9)
	tells(t, a, 0, "paper package 1 1 0 ab oil 40 60 2 7")
	does(t, "Send", a.Send(0, 1), api.OK)
	does(t, "Stop", a.Stop(1, 0), api.OK)
	if b.Now() != 0 || len(b.Records(0)) > 0 || b.Lose(0, 1, 0) != api.ErrNone {
		t.Errorf("the other coast: %d, %v", b.Now(), b.Records(0))
	}
	tells(t, b, 1, "paper package 1 1 0 ab oil 40 60 2 7")
}
