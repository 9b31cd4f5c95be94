package coast_test

import (
	"reflect"
	"slices"
	"strconv"
	"strings"
	"testing"

	"lagan/api"
	"lagan/coast"
)

// The season of the chapter's examples.
const source = "sea 2 1\nheights 0 0\ntide 0 0\nloss 1 0 0 1 1 0 0\n"

// begin is a line that sets up a coast of the chapter's examples, with the lines behind it.
const begin = "setup 2 4000 4\n" + source

// newCoast returns a coast of n stations.
func newCoast(t testing.TB, n int) *coast.Coast { return coastWith(t, n, 4000, source) }

func coastWith(t testing.TB, n, sectors int, season string) *coast.Coast {
	t.Helper()
	c, e := coast.New(api.Setup{Stations: n, Sectors: sectors, Season: season})
	if c == nil || e != api.OK {
		t.Fatalf("New: %v, error %d", c, e)
	}
	return c
}

// does checks an error.
func does(t testing.TB, what string, got, want api.Errno) {
	t.Helper()
	if got != want {
		t.Errorf("%s: error %d, want %d", what, got, want)
	}
}

// passes makes it an hour.
func passes(t testing.TB, c *coast.Coast, hour int) {
	t.Helper()
	does(t, "Pass", c.Pass(hour), api.OK)
}

// tells lets a station write records.
func tells(t testing.TB, c *coast.Coast, station int, texts ...string) {
	t.Helper()
	for _, text := range texts {
		want := len(own(c, station)) + 1
		if n, e := c.Tell(station, text); n != want || e != api.OK {
			t.Errorf("Tell(%d, %q): %d, error %d, want %d", station, text, n, e, want)
		}
	}
}

// refuses checks that a station does not write a record, and that nothing changes.
func refuses(t testing.TB, c *coast.Coast, station int, text string, want api.Errno) {
	t.Helper()
	before := c.Records(station)
	if n, e := c.Tell(station, text); n != 0 || e != want {
		t.Errorf("Tell(%d, %q): %d, error %d, want %d", station, text, n, e, want)
	}
	same(t, "the records behind an error", c.Records(station), before)
}

// settles checks what the receiver writes when it settles, and the error.
func settles(t testing.TB, c *coast.Coast, want api.Errno, texts ...string) {
	t.Helper()
	before := len(own(c, 0))
	n, e := c.Settle()
	var got []string
	for _, x := range own(c, 0)[before:] {
		got = append(got, x.Text)
		if x.Hour != c.Now() {
			t.Errorf("%q at %d", x.Text, x.Hour)
		}
	}
	if e != want || !slices.Equal(got, texts) || e == api.OK && n != len(texts) || e != api.OK && n != 0 {
		t.Errorf("Settle: %d, error %d, want %d; %q, want %q", n, e, want, got, texts)
	}
}

// own returns the records that a station wrote itself, as it has them.
func own(c *coast.Coast, station int) []api.Record {
	return slices.DeleteFunc(c.Records(station), func(x api.Record) bool { return x.Station != station })
}

// exchange lets each station in turn send to each other one, and carries all messages until there are none; then all have
// the same records (P10.2). No disk may be down, or full.
func exchange(t testing.TB, c *coast.Coast, n int) {
	t.Helper()
	for from := range n {
		for to := range n {
			if from != to {
				does(t, "Send", c.Send(from, to), api.OK)
			}
		}
		carryAll(t, c, n)
	}
	for s := range n {
		same(t, "the records of "+strconv.Itoa(s), c.Records(s), c.Records(0))
	}
}

// carryAll carries messages until there are none.
func carryAll(t testing.TB, c *coast.Coast, n int) {
	t.Helper()
	for more := true; more; {
		more = false
		for from := range n {
			for to := range n {
				e := c.Carry(from, to, 0)
				if e != api.OK && e != api.ErrNone {
					t.Fatalf("Carry: error %d", e)
				}
				more = more || e == api.OK
			}
		}
	}
}

func allRecords(c *coast.Coast, n int) [][]api.Record {
	var out [][]api.Record
	for s := range n {
		out = append(out, c.Records(s))
	}
	return out
}

// same checks that two values are the same, but that nil slices are as good as empty ones.
func same[T any](t testing.TB, what string, got, want T) {
	t.Helper()
	if !alike(reflect.ValueOf(got), reflect.ValueOf(want)) {
		t.Errorf("%s: %+v, want %+v", what, got, want)
	}
}

func alike(a, b reflect.Value) bool {
	switch a.Kind() {
	case reflect.Slice:
		if a.Len() != b.Len() {
			return false
		}
		for i := range a.Len() {
			if !alike(a.Index(i), b.Index(i)) {
				return false
			}
		}
		return true
	case reflect.Struct:
		for i := range a.NumField() {
			if !alike(a.Field(i), b.Field(i)) {
				return false
			}
		}
		return true
	}
	return a.Equal(b)
}

// plays runs a script, in which a line that begins with `> ` is what the lines before it have to print.
func plays(t testing.TB, play string) {
	t.Helper()
	var script, want []string
	for _, line := range strings.Split(strings.Trim(play, "\n"), "\n") {
		if printed, is := strings.CutPrefix(line, "> "); is {
			want = append(want, printed)
		} else {
			script = append(script, line)
		}
	}
	out, wrong, e := coast.Run(strings.Join(script, "\n") + "\n")
	if wrong != 0 || e != api.OK {
		t.Fatalf("Run: the line %d, error %d", wrong, e)
	}
	got := strings.Split(strings.TrimSuffix(out, "\n"), "\n")
	for i := range min(len(got), len(want)) {
		if got[i] != want[i] {
			t.Errorf("the line %d that is printed: %q, want %q", i+1, got[i], want[i])
		}
	}
	if len(got) != len(want) {
		t.Errorf("printed are %d lines, want %d: %q", len(got), len(want), got)
	}
}
