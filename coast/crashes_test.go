package coast_test

import (
	"math"
	"strconv"
	"testing"

	"lagan/api"
	"lagan/coast"
)

// P10.1, K5: the errors of Stop and Crash, in their order.
func TestStopErrors(t *testing.T) {
	c := newCoast(t, 3)
	for _, s := range []int{-1, 3, 5, math.MinInt, math.MaxInt} {
		does(t, "Stop of no station", c.Stop(s, 1), api.ErrArg)
		does(t, "Crash of no station", c.Crash(s, nil), api.ErrArg)
	}
	does(t, "Stop", c.Stop(1, -1), api.ErrArg)
	does(t, "Stop", c.Stop(1, math.MinInt), api.ErrArg)
	does(t, "Stop", c.Stop(1, math.MaxInt), api.OK)
	tells(t, c, 1, "wind wind 0 9 0 0 0 1")
	does(t, "Stop", c.Stop(1, 0), api.OK)
	refuses(t, c, 1, "wind wind 0 9 0 0 0 1", api.ErrDown)
	does(t, "Stop of what is down", c.Stop(1, 5), api.ErrDown)
	does(t, "Stop of what is down", c.Stop(1, -1), api.ErrDown)
	tells(t, c, 0, "wind wind 0 9 0 0 0 1")
	tells(t, c, 2, "wind wind 0 9 0 0 0 1")
	for _, keep := range [][]int{{math.MinInt, math.MaxInt, -1}, nil} {
		does(t, "Crash", c.Crash(1, keep), api.OK)
		counts(t, c, 1, 1, 1)
	}
	tells(t, c, 1, "wind wind 0 9 0 0 0 1")
}

// P10.1, K5: the power fails at each call: a record that was not written is there behind the crash, or not at all, and
// all others are there.
func TestCrashes(t *testing.T) {
	text := "paper package 20 100 0 abcdefghijkl abcdefghijklmnopqrstuvwx 100000 100000 20 40"
	for _, keep := range []int{0, 1, 30, 63, 64} {
		there := 0
		for calls := 0; ; calls++ {
			c := newCoast(t, 2)
			tells(t, c, 1, "wind wind 0 9 0 0 0 1", "wind wind 0 9 0 0 0 1")
			does(t, "Stop", c.Stop(1, calls), api.OK)
			n, e := c.Tell(1, text)
			if e == api.OK {
				break
			}
			if n != 0 || e != api.ErrDown {
				t.Fatalf("Tell: %d, error %d", n, e)
			}
			counts(t, c, 0, 2)
			does(t, "Crash", c.Crash(1, []int{keep, keep, keep, keep}), api.OK)
			l := c.Records(1)
			if len(l) == 3 && l[2].Text == text {
				there++
			} else {
				counts(t, c, 0, 2)
			}
			tells(t, c, 1, "wind wind 0 9 0 0 0 1")
			does(t, "Crash", c.Crash(1, nil), api.OK)
			counts(t, c, 0, len(l)+1)
			exchange(t, c, 2)
			counts(t, c, len(l)+1, len(l)+1)
		}
		if (there > 0) != (keep == api.SectorSize) {
			t.Errorf("keeping %d bytes: the record was there %d times", keep, there)
		}
	}
}

// P10.7: a crash of a station whose disk was not down changes no answer, and nothing that is on the lines.
func TestCrashChangesNothing(t *testing.T) {
	c := sold(t)
	settles(t, c, api.OK, soldPostings...)
	does(t, "Send", c.Send(0, 1), api.OK)
	for s := range 2 {
		does(t, "Stop", c.Stop(s, 7), api.OK)
		before := answersOf(c, s)
		for _, keep := range [][]int{nil, {0, 0, 0}, {64}} {
			does(t, "Crash", c.Crash(s, keep), api.OK)
			same(t, "the answers", answersOf(c, s), before)
		}
	}
	if c.Now() != 20 {
		t.Errorf("Now: %d", c.Now())
	}
	settles(t, c, api.OK)
	does(t, "Send", c.Send(0, 1), api.OK)
	same(t, "the messages", waiting(c, 0, 1), 2)
	// The power lasts again.
	for i := range 10 {
		tells(t, c, 0, "wind wind "+strconv.Itoa(i)+" 99 0 0 0 0")
	}
}

// answers are what a station says of all that it is asked.
type answers struct {
	records []api.Record
	books   api.Books
	lines   []string
	errors  []api.Errno
	dues    [][]api.Due
	pence   []int
}

// answersOf asks a station questions of all kinds, about some parcels.
func answersOf(c *coast.Coast, station int) answers {
	a := answers{records: c.Records(station), books: c.Books(station)}
	note := func(e api.Errno) { a.errors = append(a.errors, e) }
	now := c.Now()
	questions := []string{words("at", now) + " assign", words("at", now) + words(" package", 1, 1), words("at", now) + words(" place", 1, 1, 1, 0, 5), words("at", now) + words(" title", 1, 1, now)}
	parcels := []int{50}
	for _, x := range a.books.Sales {
		parcels = append(parcels, x.Parcel)
	}
	for _, parcel := range parcels[max(len(parcels)-3, 0):] {
		questions = append(questions, words("at", now)+words(" weight", parcel), words("at", now)+words(" may", parcel, 1, 1), words("at", now)+words(" due", parcel, now))
		l, e := c.Due(station, parcel)
		a.dues = append(a.dues, l)
		note(e)
		for _, party := range []int{2, 4, 7} {
			n, e := c.Has(station, party, parcel)
			a.pence = append(a.pence, n)
			note(e)
		}
	}
	for _, question := range questions {
		line, e := c.Ask(station, question)
		a.lines = append(a.lines, line)
		note(e)
		note(c.Audit(station, line))
	}
	n, e := c.Held(station)
	a.pence = append(a.pence, n)
	note(e)
	return a
}
