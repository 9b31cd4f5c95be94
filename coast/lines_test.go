package coast_test

import (
	"math"
	"strconv"
	"testing"

	"lagan/api"
	"lagan/coast"
)

// winds lets a station write records.
func winds(t testing.TB, c *coast.Coast, station, count int) {
	t.Helper()
	for i := range count {
		tells(t, c, station, "wind wind "+strconv.Itoa(i)+" "+strconv.Itoa(i)+" 0 0 0 0")
	}
}

// counts checks how many records stations have.
func counts(t testing.TB, c *coast.Coast, want ...int) {
	t.Helper()
	for s, n := range want {
		same(t, "how many records "+strconv.Itoa(s)+" has", len(c.Records(s)), n)
	}
}

// carries carries the message with an index.
func carries(t testing.TB, c *coast.Coast, from, to, index int) {
	t.Helper()
	does(t, "Carry", c.Carry(from, to, index), api.OK)
}

// waiting returns how many messages are on a line, which it empties.
func waiting(c *coast.Coast, from, to int) int {
	n := 0
	for c.Lose(from, to, 0) == api.OK {
		n++
	}
	return n
}

// P10.1, K4: the chapter's example: a greeting, and what it leads to.
func TestLinesExample(t *testing.T) {
	c := newCoast(t, 2)
	winds(t, c, 0, 3)
	winds(t, c, 1, 1)
	does(t, "Send", c.Send(0, 1), api.OK)
	carries(t, c, 0, 1, 0)
	counts(t, c, 3, 1)
	carries(t, c, 1, 0, 0)
	counts(t, c, 4, 1)
	carries(t, c, 0, 1, 0)
	carries(t, c, 1, 0, 0)
	carries(t, c, 0, 1, 0)
	counts(t, c, 4, 4)
	carries(t, c, 1, 0, 0)
	for _, line := range [][2]int{{0, 1}, {1, 0}} {
		does(t, "Carry", c.Carry(line[0], line[1], 0), api.ErrNone)
	}
}

// P10.1, K4: the errors of Send, in their order.
func TestSendErrors(t *testing.T) {
	c := newCoast(t, 3)
	does(t, "Stop", c.Stop(1, 0), api.OK)
	refuses(t, c, 1, "wind wind 0 9 0 0 0 1", api.ErrDown)
	for _, x := range [][2]int{{-1, 0}, {0, -1}, {3, 0}, {0, 3}, {1, 3}, {1, 1}, {0, 0}, {4, 4}, {math.MinInt, 0}, {math.MaxInt, 0}, {1, math.MaxInt}} {
		does(t, "Send", c.Send(x[0], x[1]), api.ErrArg)
	}
	for range 100 {
		does(t, "Send", c.Send(0, 1), api.OK)
	}
	does(t, "Send on a full line", c.Send(0, 1), api.ErrFull)
	does(t, "Send on another one", c.Send(0, 2), api.OK)
	does(t, "Send of a station that is down", c.Send(1, 0), api.ErrDown)
	does(t, "Crash", c.Crash(1, nil), api.OK)
	does(t, "Send on the line back", c.Send(1, 0), api.OK)
	same(t, "the messages", waiting(c, 0, 1), 100)
	same(t, "the messages back", waiting(c, 1, 0), 1)
	for range 100 {
		does(t, "Send", c.Send(1, 2), api.OK)
	}
	does(t, "Stop", c.Stop(1, 0), api.OK)
	does(t, "Send on a full line", c.Send(1, 2), api.ErrFull)
	refuses(t, c, 1, "wind wind 0 9 0 0 0 1", api.ErrDown)
	does(t, "Send of a station that is down", c.Send(1, 2), api.ErrDown)
}

// P10.1, K4: no message is ErrNone, also if there is no line for it.
func TestNoMessage(t *testing.T) {
	c := newCoast(t, 3)
	does(t, "Send", c.Send(0, 1), api.OK)
	does(t, "Stop", c.Stop(1, 0), api.OK)
	refuses(t, c, 1, "wind wind 0 9 0 0 0 1", api.ErrDown)
	for _, x := range [][3]int{
		{0, 1, 1}, {0, 1, -1}, {0, 1, math.MaxInt}, {0, 1, math.MinInt}, {1, 0, 0}, {0, 2, 0}, {0, 0, 0}, {1, 1, 0},
		{-1, 1, 0}, {0, -1, 0}, {3, 1, 0}, {0, 3, 0}, {4, 4, 0}, {5, 1, 0}, {0, 5, 0}, {math.MinInt, 1, 0}, {0, math.MaxInt, 0},
	} {
		for _, do := range []func(c *coast.Coast, from, to, index int) api.Errno{(*coast.Coast).Carry, (*coast.Coast).Lose, (*coast.Coast).Repeat} {
			does(t, "a message that there is not", do(c, x[0], x[1], x[2]), api.ErrNone)
		}
	}
	same(t, "the messages", waiting(c, 0, 1), 1)
}

// lettered returns a coast on which four letters are on the line from 0 to 1: with one record of 0, with two, and so on.
func lettered(t testing.TB) *coast.Coast {
	t.Helper()
	c := newCoast(t, 2)
	for range 4 {
		does(t, "Send", c.Send(1, 0), api.OK)
	}
	for range 4 {
		winds(t, c, 0, 1)
		carries(t, c, 1, 0, 0)
	}
	return c
}

// P10.1, K4: a message is taken from its place, and those behind it move up.
func TestPlaces(t *testing.T) {
	carry := func(c *coast.Coast, index, want int) {
		t.Helper()
		carries(t, c, 0, 1, index)
		counts(t, c, 4, want)
	}
	for i := range 4 {
		c := lettered(t)
		carry(c, i, i+1)
		same(t, "the messages", waiting(c, 0, 1), 3)
		// What added something is answered by a greeting.
		same(t, "the messages back", waiting(c, 1, 0), 1)
	}
	c := lettered(t)
	carry(c, 1, 2) // the letters with 1, 3 and 4 records are left
	carry(c, 0, 2)
	same(t, "the messages back", waiting(c, 1, 0), 1)
	carry(c, 0, 3)
	carry(c, 0, 4)
	c = lettered(t)
	does(t, "Lose", c.Lose(0, 1, 2), api.OK) // 1, 2 and 4
	carry(c, 1, 2)
	does(t, "Lose", c.Lose(0, 1, 2), api.ErrNone)
	carry(c, 1, 4)
	c = lettered(t)
	does(t, "Repeat", c.Repeat(0, 1, 1), api.OK) // 1, 2, 3, 4 and 2
	carry(c, 4, 2)
	does(t, "Repeat", c.Repeat(0, 1, 2), api.OK) // 1, 2, 3, 4 and 3
	carry(c, 4, 3)
	carry(c, 1, 3)
	carry(c, 1, 3)
	carry(c, 1, 4)
}

// P10.1, K4: a line has room for 100 messages; a message more is ErrFull, but an answer more is lost.
func TestFullLines(t *testing.T) {
	c := lettered(t)
	for range 96 {
		does(t, "Repeat", c.Repeat(0, 1, 3), api.OK)
	}
	does(t, "Repeat on a full line", c.Repeat(0, 1, 3), api.ErrFull)
	does(t, "Repeat on a full line", c.Repeat(0, 1, 0), api.ErrFull)
	does(t, "Repeat of no message", c.Repeat(0, 1, 100), api.ErrNone)
	for range 100 {
		does(t, "Send", c.Send(1, 0), api.OK)
	}
	// The answer of 1 has no room on the line back, and that of 0 has none.
	carries(t, c, 0, 1, 3)
	counts(t, c, 4, 4)
	same(t, "the messages", waiting(c, 1, 0), 100)
	does(t, "Send", c.Send(1, 0), api.OK)
	does(t, "Send", c.Send(0, 1), api.OK)
	winds(t, c, 0, 1)
	carries(t, c, 1, 0, 0)
	same(t, "the messages", waiting(c, 0, 1), 100)
	counts(t, c, 5, 4)
	// What is taken away makes room.
	c = lettered(t)
	for range 96 {
		does(t, "Repeat", c.Repeat(0, 1, 3), api.OK)
	}
	does(t, "Lose", c.Lose(0, 1, 99), api.OK)
	does(t, "Send", c.Send(0, 1), api.OK)
	does(t, "Send", c.Send(0, 1), api.ErrFull)
	carries(t, c, 0, 1, 0)
	does(t, "Send", c.Send(0, 1), api.OK)
}

// P10.1, K4: a message to a station that is down stays; one by which it goes down is lost.
func TestCarryDown(t *testing.T) {
	c := lettered(t)
	does(t, "Stop", c.Stop(1, 1), api.OK)
	does(t, "Carry", c.Carry(0, 1, 2), api.ErrDown)
	for range 2 {
		does(t, "Carry to a station that is down", c.Carry(0, 1, 0), api.ErrDown)
		does(t, "Carry of no message to it", c.Carry(0, 1, 3), api.ErrNone)
	}
	counts(t, c, 4, 0)
	same(t, "the messages back", waiting(c, 1, 0), 0)
	does(t, "Send", c.Send(1, 0), api.ErrDown)
	// What is on the line can be doubled and lost all the same.
	does(t, "Repeat", c.Repeat(0, 1, 1), api.OK)
	does(t, "Lose", c.Lose(0, 1, 0), api.OK)
	does(t, "Crash", c.Crash(1, []int{0, 0}), api.OK)
	counts(t, c, 4, 0)
	carries(t, c, 0, 1, 2) // of the letters with 2, 4 and 2 records
	counts(t, c, 4, 2)
	carries(t, c, 0, 1, 0)
	counts(t, c, 4, 2)
	carries(t, c, 0, 1, 0)
	counts(t, c, 4, 4)
	// A message that adds nothing does not use the disk.
	does(t, "Stop", c.Stop(1, 0), api.OK)
	does(t, "Send", c.Send(0, 1), api.OK)
	carries(t, c, 0, 1, 0)
	does(t, "Send", c.Send(1, 0), api.OK)
}

// P10.2: what was lost, doubled and late does no harm: all get the same records, the same books, and answer the same.
func TestOneBook(t *testing.T) {
	c := newCoast(t, 5)
	for s := range 5 {
		passes(t, c, 5+s)
		tells(t, c, s, "paper package 1 "+strconv.Itoa(s+1)+" 0 ab oil 40 60 1 7", "report 5 found 1 a? oil 10 20 4")
		winds(t, c, s, 11+s)
	}
	for from := range 5 {
		for to := range 5 {
			c.Send(from, to)
			c.Repeat(from, to, 0)
			c.Carry(from, to, 0)
			c.Lose(from, to, 0)
		}
	}
	exchange(t, c, 5)
	counts(t, c, 75, 75, 75, 75, 75)
	for s := range 5 {
		same(t, "the records", c.Records(s), c.Records(0))
		same(t, "the books", c.Books(s), c.Books(0))
		for _, question := range []string{"at 9 weight 100", "at 9 package 1 3", "at 9 place 1 1 1 0 5", "at 9 assign", "at 9 may 100 1 2", "at 9 title 1 2 9", "at 9 sure 100 9"} {
			same(t, "the answer to "+question, valuesOf(t, c, s, question), valuesOf(t, c, 0, question))
		}
	}
}
