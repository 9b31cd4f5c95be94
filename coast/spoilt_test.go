package coast

import (
	"testing"

	"lagan/api"
	"lagan/inquiry"
)

// spoil writes something on the disk of a station, and makes it durable. Nothing that is exported does so.
func spoil(t *testing.T, c *Coast, station int, b []byte) {
	t.Helper()
	disk := c.stations[station].disk
	if e := disk.Write(0, b); e != api.OK {
		t.Fatalf("Write: error %d", e)
	}
	if e := disk.Flush(); e != api.OK {
		t.Fatalf("Flush: error %d", e)
	}
}

// P10.1, K5: a station whose disk cannot be opened does nothing, and is down, until a Crash returns OK.
func TestStationThatDoesNothing(t *testing.T) {
	c, e := New(api.Setup{Stations: 3, Sectors: 4000, Season: "sea 2 1\nheights 0 0\ntide 0 0\nloss 1 0 0 1 1 0 0\n"})
	if e != api.OK {
		t.Fatalf("New: error %d", e)
	}
	does := func(what string, got, want api.Errno) {
		t.Helper()
		if got != want {
			t.Errorf("%s: error %d, want %d", what, got, want)
		}
	}
	c.Tell(1, "report 0 found 1 a? oil 10 20 4")
	c.Tell(0, "paper package 1 1 0 ab oil 40 60 2 7")
	does("Send", c.Send(0, 1), api.OK)
	owner, _ := c.stations[1].disk.Read(0)
	for _, station := range []int{0, 1} {
		spoil(t, c, station, []byte("something else"))
		does("Crash", c.Crash(station, nil), api.ErrSpoilt)
		does("Crash again", c.Crash(station, []int{64}), api.ErrSpoilt)
	}
	does("Carry", c.Carry(0, 1, 0), api.ErrDown)
	does("Carry of no message", c.Carry(0, 1, 1), api.ErrNone)
	does("Send", c.Send(1, 0), api.ErrDown)
	does("Send to it", c.Send(2, 1), api.OK)
	for text, want := range map[string]api.Errno{
		"": api.ErrArg, "nonsense": api.ErrWord, "posting sale 60 1 5 0": api.ErrState, "report 0 weighed 60 10 20": api.ErrParcel,
		"report 0 found 1 a? oil 10 20 4": api.ErrDown,
	} {
		n, e := c.Tell(1, text)
		does("Tell "+text, e, want)
		if n != 0 {
			t.Errorf("Tell %q: %d", text, n)
		}
	}
	n, e := c.Settle()
	if n != 0 || e != api.ErrDown {
		t.Errorf("Settle: %d, error %d", n, e)
	}
	if b := c.Books(1); len(c.Records(1)) > 0 || len(b.Reports) > 0 || len(b.Season.Losses) != 1 || inquiry.CheckBooks(b) != api.OK {
		t.Errorf("the records %v, the books %v", c.Records(1), c.Books(1))
	}
	line, e := c.Ask(1, "at 0 assign")
	does("Ask", e, api.OK)
	does("Audit", c.Audit(1, line), api.OK)
	_, e = c.Due(1, 60)
	does("Due", e, api.ErrParcel)
	_, e = c.Held(1)
	does("Held", e, api.OK)
	_, e = c.Has(1, 7, 60)
	does("Has", e, api.OK)
	spoil(t, c, 1, owner)
	does("Send", c.Send(1, 0), api.ErrDown)
	does("Crash", c.Crash(1, nil), api.OK)
	if len(c.Records(1)) != 1 {
		t.Errorf("the records %v", c.Records(1))
	}
	does("Carry", c.Carry(0, 1, 0), api.OK)
	does("Send", c.Send(1, 2), api.OK)
}
