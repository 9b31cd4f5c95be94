package coast_test

import (
	"math"
	"strconv"
	"strings"
	"testing"

	"lagan/api"
)

// P10.1, K2: the chapter's examples.
func TestTellExamples(t *testing.T) {
	c := newCoast(t, 2)
	tells(t, c, 0, "paper package 1 1 0 ab oil 40 60 2 7", "paper void 5")
	refuses(t, c, 0, "paper void 5", api.ErrTwice)
	tells(t, c, 0, "paper package 1 1 0 ab oil 40 60 2 7")
	refuses(t, c, 0, "posting sale 60 1 5 0", api.ErrState)
	refuses(t, c, 0, "nonsense", api.ErrWord)
	passes(t, c, 5)
	tells(t, c, 1, "report 3 found 1 a? oil 10 20 4")
	same(t, "the records", c.Records(1), []api.Record{{Station: 1, Number: 1, Hour: 5, Text: "report 3 found 1 a? oil 10 20 4"}})
}

// P10.1, K2: the errors of Tell, in their order.
func TestTellErrors(t *testing.T) {
	c := newCoast(t, 3)
	for _, station := range []int{-1, 3, 4, 5, math.MinInt, math.MaxInt} {
		refuses(t, c, station, "paper void 5", api.ErrArg)
		refuses(t, c, station, "", api.ErrArg)
	}
	// ErrArg: no text of a record.
	for _, text := range []string{"", strings.Repeat("x", 201), "posting sale 60 1 5 0" + strings.Repeat(" ", 180), "paper void 5\n", "paper\x7f", "päper void 5"} {
		refuses(t, c, 0, text, api.ErrArg)
	}
	// ErrWord: no form, or an hour of the text that is not there yet.
	for _, text := range []string{strings.Repeat("x", 200), " ", "paper", "paper ", "posting", "posting ", "posting pay 7", "posting sale 60 1 5 1", "Paper void 5", "report 1 found 1 a? oil 10 20 4", "sale 1 sale 60 1 0 0 0"} {
		refuses(t, c, 0, text, api.ErrWord)
		refuses(t, c, 2, text, api.ErrWord)
	}
	// ErrState: only settling makes postings.
	for station := range 3 {
		for _, text := range []string{"posting sale 60 1 5 0", "posting pay 7 60 1 5 0", "posting back 0 60 1 5 0"} {
			refuses(t, c, station, text, api.ErrState)
		}
	}
	// Those of the layers.
	tells(t, c, 0, "paper package 1 1 0 ab oil 40 60 2 7", "sale 0 sale 60 1 0 0 0")
	refuses(t, c, 0, "paper void 10", api.ErrNone)
	refuses(t, c, 0, "sale 0 sale 60 2 0 0 0", api.ErrSold)
	refuses(t, c, 0, "report 0 divided 60 2", api.ErrParcel)
	refuses(t, c, 0, "wind void 5", api.ErrNone)
	refuses(t, c, 0, "deed void 5", api.ErrNone)
	refuses(t, c, 0, "rate void 5", api.ErrNone)
	// ErrDown comes last.
	does(t, "Stop", c.Stop(0, 0), api.OK)
	refuses(t, c, 0, "paper void 5", api.ErrDown)
	refuses(t, c, 0, "paper void 5", api.ErrDown)
	refuses(t, c, 0, "paper void 10", api.ErrNone)
	refuses(t, c, 0, "posting sale 60 1 5 0", api.ErrState)
	refuses(t, c, 0, "nonsense", api.ErrWord)
	refuses(t, c, 0, "", api.ErrArg)
	refuses(t, c, 5, "", api.ErrArg)
}

// P10.1, K2: what a record is refused for is what the station itself knows, in the one order.
func TestTellKnows(t *testing.T) {
	c := newCoast(t, 2)
	passes(t, c, 5)
	tells(t, c, 1, "report 3 found 1 a? oil 10 20 4") // the record 6, which makes the parcel 60
	refuses(t, c, 0, "report 5 weighed 60 12 12", api.ErrParcel)
	exchange(t, c, 2)
	// A record of this hour is entered before that of the station behind.
	refuses(t, c, 0, "report 5 weighed 60 12 12", api.ErrParcel)
	tells(t, c, 1, "report 5 weighed 60 13 13")
	passes(t, c, 6)
	tells(t, c, 0, "report 5 weighed 60 12 14")
	exchange(t, c, 2)
	tells(t, c, 1, "report 6 divided 60 2")
	passes(t, c, 7)
	refuses(t, c, 1, "report 7 weighed 60 12 12", api.ErrParcel)
	// The receiver does not know yet that it is not there any more.
	tells(t, c, 0, "report 7 hidden 60 3")
	exchange(t, c, 2)
	same(t, "the reports that count", len(c.Books(0).Reports), 4)
}

// P10.1, K2: a station with 400 records writes no more of them, whatever they are.
func TestTellLimit(t *testing.T) {
	t.Parallel()
	c := coastWith(t, 2, 65536, source)
	for i := range 300 {
		tells(t, c, 1, "paper package 1 "+strconv.Itoa(1+i%200)+" 0 ab oil 40 60 2 7")
	}
	refuses(t, c, 1, "paper void 6", api.ErrLimit) // that of cargo
	for range 100 {
		tells(t, c, 1, "rate rate 0 all 1 5 0 0")
	}
	for _, text := range []string{"wind wind 0 9 0 0 0 1", "", "nonsense", "posting sale 60 1 5 0", "rate void 4"} {
		refuses(t, c, 1, text, api.ErrLimit)
	}
	refuses(t, c, 2, "", api.ErrArg)
	does(t, "Stop", c.Stop(1, 0), api.OK)
	refuses(t, c, 1, "wind wind 0 9 0 0 0 1", api.ErrLimit)
	tells(t, c, 0, "wind wind 0 9 0 0 0 1")
}

// P10.1, K2, K4: a disk that is full: a letter that it has no room for is lost, and at last nothing is written.
func TestFull(t *testing.T) {
	t.Parallel()
	c := coastWith(t, 2, 1000, source)
	for i := range 300 {
		for s := range 2 {
			tells(t, c, s, "paper package 20 "+strconv.Itoa(1+i%200)+" 0 abcdefghijkl abcdefghijklmnopqrstuvwx 100000 100000 20 40")
		}
	}
	e := c.Send(0, 1)
	for e == api.OK {
		does(t, "Carry to 1", c.Carry(0, 1, 0), api.OK)
		e = c.Carry(1, 0, 0)
	}
	does(t, "Carry of what there is no room for", e, api.ErrFull)
	does(t, "Carry of what was lost", c.Carry(1, 0, 0), api.ErrNone)
	does(t, "Carry of an answer", c.Carry(0, 1, 0), api.ErrNone)
	had := c.Records(0)
	if len(had) < 310 || len(had) > 590 {
		t.Errorf("%d records", len(had))
	}
	does(t, "Send", c.Send(0, 1), api.OK)
	does(t, "Carry to 1", c.Carry(0, 1, 0), api.OK)
	does(t, "Carry again", c.Carry(1, 0, 0), api.ErrFull)
	same(t, "the records behind it", c.Records(0), had)
	n := 0
	for e = api.OK; e == api.OK; n++ {
		_, e = c.Tell(0, "rate rate 0 abcdefghijklmnopqrstuvwx 99999 100000 100000 100000")
	}
	does(t, "Tell", e, api.ErrFull)
	same(t, "how many records were written", len(own(c, 0)), 300+n-1)
	refuses(t, c, 0, "rate void 3", api.ErrNone)
}

// P10.6: the record that was written is entered, and no other station has it yet.
func TestTellEnters(t *testing.T) {
	c := newCoast(t, 3)
	passes(t, c, 9)
	lists := func() []int {
		b := c.Books(2)
		return []int{len(b.Papers), len(b.Winds), len(b.Reports), len(b.Deeds), len(b.Rates), len(b.Sales), len(b.Postings)}
	}
	for i, text := range []string{"paper total 1 0 2 50 90", "wind wind 0 9 0 0 0 1", "report 3 found 1 a? oil 10 20 4", "deed 4 claim 1 1 7", "rate rate 0 all 1 5 0 0", "sale 9 sale 170 100 0 0 0"} {
		want := lists()
		want[i]++
		tells(t, c, 2, text)
		same(t, "the lists behind "+text, lists(), want)
		same(t, "the records of another station", c.Records(0), nil)
		same(t, "the records of another station", c.Records(1), nil)
	}
}
