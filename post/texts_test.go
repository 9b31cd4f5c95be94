package post_test

import (
	"math/rand/v2"
	"strings"
	"testing"

	"lagan/api"
	"lagan/post"
)

// P8.1, H8, and P8.8: lines of records, and the records.
func TestWriteRead(t *testing.T) {
	long := strings.Repeat("~", 200)
	for line, x := range map[string]api.Record{
		"1 2 9 sold it":          {Station: 1, Number: 2, Hour: 9, Text: "sold it"},
		"0 1 0 x":                {Station: 0, Number: 1, Hour: 0, Text: "x"},
		"2 400 1000000 " + long:  {Station: 2, Number: 400, Hour: 1000000, Text: long},
		"0 1 0  ":                {Station: 0, Number: 1, Hour: 0, Text: " "},
		"0 1 0  two  blanks  ":   {Station: 0, Number: 1, Hour: 0, Text: " two  blanks  "},
		"2 10 20 0 01 -0 post 1": {Station: 2, Number: 10, Hour: 20, Text: "0 01 -0 post 1"},
	} {
		for n := 3; n <= 5; n++ {
			if s, e := post.WriteRecord(n, x); s != line || e != api.OK {
				t.Errorf("writing %+v: %q, error %d, want %q", x, s, e, line)
			}
			if y, e := post.ReadRecord(n, line); y != x || e != api.OK {
				t.Errorf("reading %q: %+v, error %d", line, y, e)
			}
		}
	}
}

// P8.1, H8: what is not well-formed has no line, and the errors of a number of stations.
func TestWriteForm(t *testing.T) {
	for _, x := range []api.Record{{}, record(2, 1, 1), record(-1, 1, 1), record(0, 0, 1), record(0, 401, 1), record(0, 1, -1), record(0, 1, 1000001), {Number: 1}, {Number: 1, Text: "a\nb"}, {Number: 1, Text: strings.Repeat("a", 201)}} {
		if s, e := post.WriteRecord(2, x); s != "" || e != api.ErrArg {
			t.Errorf("writing %+v: %q, error %d", x, s, e)
		}
	}
	for _, n := range badCounts() {
		if s, e := post.WriteRecord(n, record(0, 1, 1)); s != "" || e != api.ErrArg {
			t.Errorf("writing for %d: %q, error %d", n, s, e)
		}
		for _, line := range []string{"0 1 1 x", ""} {
			if x, e := post.ReadRecord(n, line); x != (api.Record{}) || e != api.ErrArg {
				t.Errorf("reading for %d: %+v, error %d", n, x, e)
			}
		}
	}
}

// checkUnread checks that a line is of no record of three stations.
func checkUnread(t *testing.T, line string) {
	t.Helper()
	if x, e := post.ReadRecord(3, line); e != api.ErrForm || x != (api.Record{}) {
		t.Errorf("reading %q: %+v, error %d", line, x, e)
	}
}

// P8.1, H8, R6: lines that are of no record.
func TestReadForm(t *testing.T) {
	for _, line := range []string{
		"", " ", "\n", "1", "1 2", "1 2 9", "1 2 9 ", "1 2 9\n", "1 2 9 sold it\n", "\n1 2 9 x", " 1 2 9 x", "1  2 9 x", "1 2  9 x",
		"1\t2 9 x", "1 2 9\tx", "1 2 9 \n", "1 2 9 a\nb", "1 2 9 a\x00", "1 2 9 \x1f", "1 2 9 \x7f", "1 2 9 ä",
		"01 2 9 x", "1 02 9 x", "1 2 09 x", "+1 2 9 x", "1 +2 9 x", "1 2 +9 x", "-0 2 9 x", "1 2 -0 x", "-1 2 9 x", "1 2 -9 x",
		"3 2 9 x", "1 0 9 x", "1 401 9 x", "1 2 1000001 x", "1 2 99999999999999999999 x", "1 2 0x9 x", "1 2 1e1 x", "1 2 1_0 x", "one 2 9 x", "1 two 9 x", "1 2 nine x",
		"1 2 9 " + strings.Repeat("a", 201), "1 2 9 " + strings.Repeat(" ", 201),
	} {
		checkUnread(t, line)
	}
}

// P8.8: lines that are spoilt in one place are of no record, or of the record that has this line.
func TestSpoiltLines(t *testing.T) {
	r := rand.New(rand.NewPCG(8, 2))
	signs := " \n\t0123456789-+ax~\x00\x7f\xff"
	read := 0
	for range 20000 {
		line := []byte([]string{"1 2 9 sold it", "0 1 0 x", "2 400 1000000 end"}[r.IntN(3)])
		at, sign := r.IntN(len(line)), signs[r.IntN(len(signs))]
		switch r.IntN(3) {
		case 0:
			line[at] = sign
		case 1:
			line = append(line[:at], line[at+1:]...)
		default:
			line = append(line[:at], append([]byte{sign}, line[at:]...)...)
		}
		x, e := post.ReadRecord(3, string(line))
		if e == api.OK {
			read++
			if s, e := post.WriteRecord(3, x); s != string(line) || e != api.OK {
				t.Fatalf("reading %q: %+v, which has the line %q", line, x, s)
			}
		} else {
			checkUnread(t, string(line))
		}
	}
	if read < 2000 || read > 18000 {
		t.Errorf("%d lines were read", read)
	}
}

// P8.8: ReadRecord inverts WriteRecord.
func TestInversion(t *testing.T) {
	r := rand.New(rand.NewPCG(8, 3))
	for range 20000 {
		n := 2 + r.IntN(4)
		text := make([]byte, 1+r.IntN(200))
		for i := range text {
			text[i] = byte(32 + r.IntN(95))
		}
		x := api.Record{Station: r.IntN(n), Number: 1 + r.IntN(400), Hour: r.IntN(1000001), Text: string(text)}
		line, e := post.WriteRecord(n, x)
		if e != api.OK {
			t.Fatalf("writing %+v: error %d", x, e)
		}
		if y, e := post.ReadRecord(n, line); y != x || e != api.OK {
			t.Fatalf("reading %q: %+v, error %d", line, y, e)
		}
	}
}
