package post_test

import (
	"math"
	"slices"
	"strconv"
	"strings"
	"testing"

	"lagan/api"
	"lagan/post"
)

// open opens a station on a disk.
func open(t testing.TB, d *post.Disk, station, n int) *post.Station {
	t.Helper()
	s, e := post.Open(d, station, n)
	if e != api.OK || s == nil {
		t.Fatalf("opening %d of %d: error %d", station, n, e)
	}
	return s
}

// stations returns stations on disks of their own.
func stations(t testing.TB, n, sectors int) []*post.Station {
	t.Helper()
	var out []*post.Station
	for i := range n {
		out = append(out, open(t, newDisk(t, sectors), i, n))
	}
	return out
}

// adds checks that a station writes a record with a Number.
func adds(t testing.TB, s *post.Station, text string, hour, number int) {
	t.Helper()
	if k, e := s.Add(text, hour); k != number || e != api.OK {
		t.Errorf("Add(%q, %d): %d, error %d, want %d", text, hour, k, e, number)
	}
}

// refuses checks that a station does not write a record, and stays as it was.
func refuses(t testing.TB, s *post.Station, text string, hour int, want api.Errno) {
	t.Helper()
	before := s.Records()
	if k, e := s.Add(text, hour); k != 0 || e != want {
		t.Errorf("Add(%q, %d): %d, error %d, want %d", text, hour, k, e, want)
	}
	same(t, "the book behind an error", s.Records(), before)
}

// letterOf returns the message with some lines.
func letterOf(lines ...string) string { return strings.Join(lines, "\n") + "\n" }

// hears checks the answer of a station to a message.
func hears(t testing.TB, s *post.Station, m, want string) {
	t.Helper()
	if got, e := s.Hear(m); got != want || e != api.OK {
		t.Errorf("Hear(%q): %q, error %d, want %q", m, got, e, want)
	}
}

// hearsNot checks that a station refuses a message, and stays as it was.
func hearsNot(t testing.TB, s *post.Station, m string, want api.Errno) {
	t.Helper()
	before := s.Records()
	if got, e := s.Hear(m); got != "" || e != want {
		t.Errorf("Hear(%q): %q, error %d, want %d", m, got, e, want)
	}
	same(t, "the book behind an error", s.Records(), before)
}

// P8.1, H9 to H12: the chapter's examples.
func TestStationExamples(t *testing.T) {
	l := stations(t, 3, 4000)
	a, b, c := l[0], l[1], l[2]
	adds(t, a, "found a bale", 3, 1)
	refuses(t, a, "weighed it", 2, api.ErrTime)
	refuses(t, a, "", 3, api.ErrArg)
	adds(t, b, "found a chest", 1, 1)
	adds(t, b, "sold it", 9, 2)
	if g := a.Greeting(); g != "have 1 0 0\n" {
		t.Errorf("Greeting: %q", g)
	}
	hears(t, b, a.Greeting(), letterOf("post 2", "1 1 1 found a chest", "1 2 9 sold it"))
	hears(t, a, letterOf("post 2", "1 1 1 found a chest", "1 2 9 sold it"), "have 1 2 0\n")
	hears(t, a, letterOf("post 2", "1 1 1 found a chest", "1 2 9 sold it"), "")
	hears(t, b, "have 1 2 0\n", "have 0 2 0\n")
	hears(t, a, "have 0 2 0\n", letterOf("post 1", "0 1 3 found a bale"))
	got, e := post.Order(3, a.Records())
	same(t, "Order", got, lines(t, "1 1 1 found a chest", "0 1 3 found a bale", "1 2 9 sold it"))
	does(t, "Order", e, api.OK)
	hears(t, c, letterOf("post 1", "1 2 9 sold it"), "")
	same(t, "the book behind a gap", c.Records(), nil)
	hearsNot(t, a, letterOf("post 1", "0 2 9 x"), api.ErrState)
	hearsNot(t, a, letterOf("post 1", "0 1 3 y"), api.ErrState)
}

// P8.1, H9: the errors of Open, in their order.
func TestOpenErrors(t *testing.T) {
	opens := func(d *post.Disk, station, n int, want api.Errno) {
		t.Helper()
		if s, e := post.Open(d, station, n); (s != nil) != (want == api.OK) || e != want {
			t.Errorf("opening %d of %d: %v, error %d, want %d", station, n, s, e, want)
		}
	}
	d := newDisk(t, 64)
	for _, n := range badCounts() {
		opens(d, 0, n, api.ErrArg)
		opens(nil, 0, n, api.ErrArg)
	}
	for n := 2; n <= 5; n++ {
		for _, station := range []int{math.MinInt, -1, n, n + 1, math.MaxInt} {
			opens(d, station, n, api.ErrArg)
			opens(nil, station, n, api.ErrArg)
		}
	}
	opens(nil, 0, 2, api.ErrNil)
	for i := range 64 {
		reads(t, d, i, "")
	}
	d.Stop(0)
	d.Flush()
	opens(d, 0, 2, api.ErrDown)
	opens(d, 2, 2, api.ErrArg)
	d.Crash(nil)
	s := open(t, d, 1, 3)
	adds(t, s, "x", 1, 1)
	for n := 2; n <= 5; n++ {
		for station := range n {
			want := api.ErrSpoilt
			if n == 3 && station == 1 {
				want = api.OK
			}
			opens(d, station, n, want)
		}
	}
	d.Stop(0)
	d.Flush()
	opens(d, 0, 2, api.ErrDown)
}

// P8.1, H9: a disk on which a station was opened is of this station, though it has no record.
func TestOpenEmpty(t *testing.T) {
	for n := 2; n <= 5; n++ {
		for station := range n {
			d := newDisk(t, 64)
			open(t, d, station, n)
			d.Crash([]int{0, 0})
			same(t, "an empty book", open(t, d, station, n).Records(), nil)
			if _, e := post.Open(d, (station+1)%n, n); e != api.ErrSpoilt {
				t.Errorf("opening another station: error %d", e)
			}
			if _, e := post.Open(d, station%2, 7-n); e != api.ErrSpoilt {
				t.Errorf("opening for another number of stations: error %d", e)
			}
		}
	}
}

// P8.1, H9, R1: whatever else is on a disk, Open returns a station with a book, or ErrSpoilt.
func TestForeignDisks(t *testing.T) {
	spoil := func(d *post.Disk, sector int, b string) {
		t.Helper()
		does(t, "Write", d.Write(sector, []byte(b)), api.OK)
		does(t, "Flush", d.Flush(), api.OK)
	}
	for sector := range 12 {
		for _, b := range []string{"", "x", "post 1\n0 1 1 x\n", strings.Repeat("\xff", 64), strings.Repeat("\x01", 64), "have 1 2\n" + strings.Repeat("\x00", 54) + "\x01", "post 1\n0 7 1 x\n" + strings.Repeat("\x00", 48) + "\x01", "post 1\n0 1 1 y\n" + strings.Repeat("\x00", 48) + "\x01"} {
			d := newDisk(t, 64)
			spoil(d, sector, b)
			checkOpening(t, d)
			d = newDisk(t, 64)
			s := open(t, d, 0, 2)
			adds(t, s, strings.Repeat("long ", 40), 1, 1)
			adds(t, s, "short", 1, 2)
			spoil(d, sector, b)
			checkOpening(t, d)
		}
	}
	d := newDisk(t, 64)
	open(t, d, 0, 2)
	for i := 1; i < 64; i++ {
		spoil(d, i, strings.Repeat("\x01", 64))
	}
	checkOpening(t, d)
}

// checkOpening checks that a disk is spoilt, or is that of a station with a book.
func checkOpening(t *testing.T, d *post.Disk) {
	t.Helper()
	s, e := post.Open(d, 0, 2)
	if e != api.OK && (e != api.ErrSpoilt || s != nil) {
		t.Errorf("Open: error %d", e)
	}
	if i, e := post.CheckRecords(2, s.Records()); e != api.OK {
		t.Errorf("the record %d of the station: error %d", i, e)
	}
}

// P8.1, H10: the errors of Add, in their order, and its edges.
func TestAdd(t *testing.T) {
	d := newDisk(t, 4000)
	s := open(t, d, 1, 2)
	adds(t, s, "~", 0, 1)
	adds(t, s, " ", 0, 2)
	adds(t, s, strings.Repeat("a", 200), 7, 3)
	for _, text := range []string{"", strings.Repeat("a", 201), "a\nb", "\x1f", "\x7f", "ä"} {
		refuses(t, s, text, 7, api.ErrArg)
	}
	for _, hour := range []int{math.MinInt, -1, 1000001, math.MaxInt} {
		refuses(t, s, "x", hour, api.ErrArg)
	}
	refuses(t, s, "", 6, api.ErrArg)
	refuses(t, s, "x", 6, api.ErrTime)
	refuses(t, s, "x", 0, api.ErrTime)
	hears(t, s, letterOf("post 1", "0 1 9 later"), "have 1 3\n")
	adds(t, s, "x", 7, 4) // the hours of other stations do not matter
	adds(t, s, "x", 1000000, 5)
	d.Stop(0)
	refuses(t, s, "", 1000000, api.ErrArg)
	refuses(t, s, "x", 7, api.ErrTime)
	refuses(t, s, "x", 1000000, api.ErrDown)
	refuses(t, s, "x", 1000000, api.ErrDown)
	same(t, "Own", s.Own(), append(lines(t, "1 1 0 ~", "1 2 0  "), api.Record{Station: 1, Number: 3, Hour: 7, Text: strings.Repeat("a", 200)}, record(1, 4, 7), record(1, 5, 1000000)))
}

// P8.1, H10: a station writes 400 records.
func TestAddLimit(t *testing.T) {
	d := newDisk(t, 2*9*400)
	s := open(t, d, 0, 2)
	for k := range 400 {
		adds(t, s, "record "+strconv.Itoa(k), 5, k+1)
	}
	refuses(t, s, "x", 5, api.ErrLimit)
	refuses(t, s, "x", 4, api.ErrTime)
	refuses(t, s, "", 5, api.ErrArg)
	does(t, "Stop", d.Stop(0), api.OK)
	refuses(t, s, "x", 5, api.ErrLimit)
	d.Crash(nil)
	s = open(t, d, 0, 2)
	if k := len(s.Own()); k != 400 {
		t.Errorf("%d records", k)
	}
	refuses(t, s, "x", 5, api.ErrLimit)
}

// P8.1, H11: the book, the own records and the stock, also when the disk is down.
func TestRecords(t *testing.T) {
	d := newDisk(t, 1000)
	s := open(t, d, 1, 3)
	for range 2 {
		same(t, "Records", s.Records(), nil)
		same(t, "Own", s.Own(), nil)
	}
	adds(t, s, "a", 3, 1)
	hears(t, s, letterOf("post 3", "0 1 9 b", "2 1 8 c", "2 2 8 d"), "have 1 1 2\n")
	adds(t, s, "e", 4, 2)
	for _, down := range []bool{false, true} {
		if down {
			d.Stop(0)
			d.Flush()
		}
		same(t, "Records", s.Records(), lines(t, "0 1 9 b", "1 1 3 a", "1 2 4 e", "2 1 8 c", "2 2 8 d"))
		same(t, "Own", s.Own(), lines(t, "1 1 3 a", "1 2 4 e"))
		if h := s.Have(); h.Have != [5]int{1, 2, 2, 0, 0} {
			t.Errorf("Have: %v", h)
		}
		if g := s.Greeting(); g != "have 1 2 2\n" {
			t.Errorf("Greeting: %q", g)
		}
		// What adds nothing does not use the disk.
		hears(t, s, "have 1 0 2\n", letterOf("post 2", "1 1 3 a", "1 2 4 e"))
		hears(t, s, "have 1 2 3\n", "have 1 2 2\n")
		hears(t, s, "have 1 2 2\n", "")
		hears(t, s, letterOf("post 2", "0 1 9 b", "1 2 4 e"), "")
		hears(t, s, letterOf("post 1", "2 4 8 x"), "")
	}
}

// R3: results of a station are new memory.
func TestStationMemory(t *testing.T) {
	s := stations(t, 2, 64)[0]
	adds(t, s, "a", 3, 1)
	hears(t, s, letterOf("post 1", "1 1 9 b"), "have 1 1\n")
	clear(s.Records())
	clear(s.Own())
	_ = append(s.Own(), record(0, 2, 9))
	_ = append(s.Records(), record(0, 2, 9))
	adds(t, s, "c", 4, 2)
	same(t, "Records", s.Records(), lines(t, "0 1 3 a", "0 2 4 c", "1 1 9 b"))
	same(t, "Own", s.Own(), lines(t, "0 1 3 a", "0 2 4 c"))
}

// P8.1, R5: methods of a nil station.
func TestNilStation(t *testing.T) {
	var s *post.Station
	if k, e := s.Add("", -1); k != 0 || e != api.ErrNil {
		t.Errorf("Add: %d, error %d", k, e)
	}
	for _, m := range []string{"", "have 0 0\n"} {
		if a, e := s.Hear(m); a != "" || e != api.ErrNil {
			t.Errorf("Hear: %q, error %d", a, e)
		}
	}
	if len(s.Records()) > 0 || len(s.Own()) > 0 || s.Have() != (api.Stock{}) || s.Greeting() != "" {
		t.Errorf("a nil station has something")
	}
}

// P8.1, H12: a greeting is answered by the first 10 records that it lacks.
func TestHearGreeting(t *testing.T) {
	s := stations(t, 3, 4000)[1]
	for k := range 14 {
		adds(t, s, "own "+strconv.Itoa(k+1), k, k+1)
	}
	hears(t, s, letterOf("post 2", "0 1 50 a", "0 2 50 b"), "have 2 14 0\n")
	hears(t, s, letterOf("post 2", "2 1 0 c", "2 2 1 d"), "have 2 14 2\n")
	for have, want := range map[string][2]int{
		"have 0 0 0\n": {0, 10}, "have 1 0 0\n": {1, 11}, "have 2 0 2\n": {2, 12}, "have 400 4 400\n": {6, 16}, "have 2 5 2\n": {7, 16},
		"have 2 13 0\n": {15, 18}, "have 0 400 400\n": {0, 2}, "have 2 14 1\n": {17, 18}, "have 2 7 1\n": {9, 0},
	} {
		l := s.Records()[want[0]:max(want[0], want[1])]
		if want[1] == 0 {
			l = slices.Concat(s.Records()[9:16], s.Records()[17:])
		}
		m := []string{"post " + strconv.Itoa(len(l))}
		for _, x := range l {
			line, _ := post.WriteRecord(3, x)
			m = append(m, line)
		}
		hears(t, s, have, letterOf(m...))
	}
	hears(t, s, "have 2 14 2\n", "")
	for _, have := range []string{"have 3 14 2\n", "have 2 15 2\n", "have 2 14 400\n", "have 400 400 400\n"} {
		hears(t, s, have, "have 2 14 2\n")
	}
}

// P8.1, H12: what a station takes from a letter, and what it answers.
func TestHearLetter(t *testing.T) {
	start := func() *post.Station {
		s := stations(t, 3, 1000)[1]
		adds(t, s, "a", 5, 1)
		adds(t, s, "b", 6, 2)
		hears(t, s, letterOf("post 2", "0 1 8 c", "0 2 9 d"), "have 2 2 0\n")
		return s
	}
	for _, x := range []struct {
		letter []string
		added  []string
		want   api.Errno
	}{
		{[]string{"post 1", "0 1 8 c"}, nil, api.OK},
		{[]string{"post 1", "0 3 9 e"}, []string{"0 3 9 e"}, api.OK},
		{[]string{"post 1", "0 3 8 e"}, nil, api.ErrState},
		{[]string{"post 1", "0 4 9 e"}, nil, api.OK},
		{[]string{"post 1", "0 4 1 e"}, nil, api.OK},
		{[]string{"post 2", "0 3 9 e", "0 5 9 f"}, []string{"0 3 9 e"}, api.OK},
		{[]string{"post 2", "0 3 9 e", "0 5 1 f"}, []string{"0 3 9 e"}, api.OK},
		{[]string{"post 2", "0 3 9 e", "0 4 8 f"}, nil, api.ErrState},
		{[]string{"post 3", "0 2 9 d", "0 3 9 e", "0 4 9 f"}, []string{"0 3 9 e", "0 4 9 f"}, api.OK},
		{[]string{"post 3", "0 2 9 D", "0 3 9 e", "0 4 9 f"}, nil, api.ErrState},
		{[]string{"post 1", "0 2 10 d"}, nil, api.ErrState},
		{[]string{"post 2", "0 3 9 e", "2 1 0 f"}, []string{"0 3 9 e", "2 1 0 f"}, api.OK},
		{[]string{"post 2", "2 1 7 e", "2 2 6 f"}, nil, api.ErrState},
		{[]string{"post 2", "2 2 6 e", "2 3 5 f"}, nil, api.OK},
		{[]string{"post 1", "1 1 5 a"}, nil, api.OK},
		{[]string{"post 1", "1 1 5 A"}, nil, api.ErrState},
		{[]string{"post 1", "1 3 6 c"}, nil, api.ErrState},
		{[]string{"post 1", "1 4 6 c"}, nil, api.ErrState},
		{[]string{"post 3", "0 3 9 e", "1 2 6 b", "1 3 6 c"}, nil, api.ErrState},
		{[]string{"post 3", "0 3 9 e", "1 2 6 b", "2 1 6 c"}, []string{"0 3 9 e", "2 1 6 c"}, api.OK},
		{[]string{"post 2", "0 3 9 e", "1 7 0 c"}, nil, api.ErrState},
	} {
		s := start()
		m := letterOf(x.letter...)
		before, want := s.Records(), ""
		if len(x.added) > 0 {
			have := s.Have().Have
			for _, y := range lines(t, x.added...) {
				have[y.Station]++
			}
			want = "have " + strconv.Itoa(have[0]) + " " + strconv.Itoa(have[1]) + " " + strconv.Itoa(have[2]) + "\n"
		}
		if got, e := s.Hear(m); got != want || e != x.want {
			t.Errorf("Hear(%q): %q, error %d, want %q, %d", m, got, e, want, x.want)
		}
		all, e := post.Order(3, s.Records())
		does(t, "what the station has", e, api.OK)
		added := slices.DeleteFunc(all, func(y api.Record) bool { return slices.Contains(before, y) })
		slices.SortFunc(added, func(a, b api.Record) int { return a.Station*1000 + a.Number - b.Station*1000 - b.Number })
		same(t, "what was added by "+m, added, lines(t, x.added...))
		if x.want == api.OK {
			hears(t, s, m, "") // P8.8: again it has no effect
		} else {
			hearsNot(t, s, m, x.want)
		}
	}
}

// P8.1, H12: what has none of the forms.
func TestHearForm(t *testing.T) {
	l := stations(t, 3, 1000)
	s := l[0]
	adds(t, s, "x", 1, 1)
	long := []string{"post 11"}
	for k := range 11 {
		long = append(long, "1 "+strconv.Itoa(k+1)+" 5 x")
	}
	for _, m := range []string{
		"", "\n", " ", "have", "have\n", "post", "post\n", "post \n", "have \n", "hello\n", "have 0 0\n", "have 0 0 0", "have 0 0 0 0\n", "have 0 0 0 \n", "have 0 0 0\n\n", "have 0 0 0\nhave 0 0 0\n", "have 0 0 0\r\n",
		" have 0 0 0\n", "have  0 0 0\n", "have 0  0 0\n", "have 0 0\n0\n", "have\n0 0 0\n", "have 00 0 0\n", "have 0 +1 0\n", "have 0 -0 0\n", "have -1 0 0\n", "have 0 0 401\n", "have 401 0 0\n", "have 0 x 0\n", "have 0 0 99999999999999999999\n", "Have 0 0 0\n", "have 0\t0 0\n",
		"post 0\n", "post 1\n", "post 2\n1 1 5 x\n", "post 1\n1 1 5 x\n1 2 5 x\n", "post 1\n1 1 5 x", "post 1\n1 1 5 x\n\n", "post 1\n\n1 1 5 x\n", "post 1 1 1 5 x\n", "post 01\n1 1 5 x\n", "post +1\n1 1 5 x\n", "post -1\n1 1 5 x\n", "post 1\n1 1 5 \n", "post 1\n1 1 5\n", "post 1\n1 01 5 x\n", "post 1\n3 1 5 x\n", "post 1\n1 401 5 x\n", "post 1\n1 1 1000001 x\n", "post 1\n1 1 5 x\x00\n", "post 1\n1 1 5 " + strings.Repeat("x", 201) + "\n", "post 1\n1 1 5 x\r\n",
		"post 2\n1 1 5 x\n1 1 5 x\n", "post 2\n1 2 5 x\n1 1 5 x\n", "post 2\n2 1 5 x\n1 2 5 x\n", "post 2\n1 2 5 x\n0 3 5 x\n", letterOf(long...), "post 1\n1 1 5 x\nhave 0 0 0\n", "post one\n1 1 5 x\n", "Post 1\n1 1 5 x\n", "post 99999999999999999999\n1 1 5 x\n",
		"post 1\n0 1 2 y\n ", "post 2\n0 1 2 y\n0 1 2 y\n",
	} {
		hearsNot(t, s, m, api.ErrForm)
	}
	for n := 2; n <= 5; n++ {
		s := stations(t, n, 64)[0]
		for k := range 8 {
			m := "have" + strings.Repeat(" 0", k) + "\n"
			if k == n {
				hears(t, s, m, "")
			} else {
				hearsNot(t, s, m, api.ErrForm)
			}
		}
		hears(t, s, "have 400"+strings.Repeat(" 400", n-1)+"\n", s.Greeting())
		hears(t, s, letterOf("post 1", strconv.Itoa(n-1)+" 400 1000000 x"), "")
		hearsNot(t, s, letterOf("post 1", strconv.Itoa(n)+" 1 5 x"), api.ErrForm)
	}
	hears(t, s, letterOf(append([]string{"post 10"}, long[1:11]...)...), "have 1 10 0\n")
}

// P8.1, H12: the order of the errors of Hear.
func TestHearErrors(t *testing.T) {
	d := newDisk(t, 64)
	s := open(t, d, 0, 2)
	text := strings.Repeat("z", 200)
	for k := 1; ; k++ {
		if _, e := s.Add(text, 5); e == api.ErrFull {
			break
		} else if e != api.OK || k > 20 {
			t.Fatalf("filling a disk: %d, error %d", k, e)
		}
	}
	big := []string{"post 10"}
	for k := range 10 {
		big = append(big, "1 "+strconv.Itoa(k+1)+" 5 "+text)
	}
	hearsNot(t, s, letterOf(big...), api.ErrFull)
	bad := slices.Concat([]string{"post 10", "0 1 5 y"}, big[1:10])
	hearsNot(t, s, letterOf(bad...), api.ErrState)
	hearsNot(t, s, letterOf(bad...)+"x", api.ErrForm)
	does(t, "Stop", d.Stop(0), api.OK)
	hearsNot(t, s, letterOf(big...), api.ErrFull)
	does(t, "Flush", d.Flush(), api.ErrDown)
	refuses(t, s, text, 5, api.ErrDown)
	hearsNot(t, s, letterOf(big...), api.ErrDown)
	hearsNot(t, s, letterOf(bad...), api.ErrState)
	hearsNot(t, s, letterOf(bad...)+"x", api.ErrForm)
}
