package post_test

import (
	"math/rand/v2"
	"slices"
	"strconv"
	"strings"
	"testing"

	"lagan/api"
	"lagan/post"
)

// act is an operation of a station, and the records that it adds if it takes effect.
type act struct {
	do    func(s *post.Station) api.Errno
	added []api.Record
}

// addAct is an Add of the station 0.
func addAct(number, hour int, text string) act {
	return act{
		do: func(s *post.Station) api.Errno {
			_, e := s.Add(text, hour)
			return e
		},
		added: []api.Record{{Station: 0, Number: number, Hour: hour, Text: text}},
	}
}

// letterAct is that a letter is heard with some next records of the station 1.
func letterAct(first, count, hour int, text string) act {
	m := []string{"post " + strconv.Itoa(count)}
	var added []api.Record
	for k := range count {
		x := api.Record{Station: 1, Number: first + k, Hour: hour, Text: text}
		line, _ := post.WriteRecord(2, x)
		m, added = append(m, line), append(added, x)
	}
	return act{
		do: func(s *post.Station) api.Errno {
			_, e := s.Hear(letterOf(m...))
			return e
		},
		added: added,
	}
}

// with returns a book with the records of an act behind it.
func with(t testing.TB, book []api.Record, a act) []api.Record {
	t.Helper()
	out := slices.Concat(book, a.added)
	slices.SortFunc(out, func(a, b api.Record) int { return a.Station*1000 + a.Number - b.Station*1000 - b.Number })
	return out
}

// keeps are ways in which pending writes happen in part: the bytes of one of them, and of all others.
func keeps() [][]int {
	var out [][]int
	for _, rest := range []int{0, 1, 40, 63, 64} {
		for which := range 4 {
			for _, one := range []int{0, 1, 2, 10, 62, 63, 64} {
				keep := slices.Repeat([]int{rest}, 50)
				keep[which] = one
				out = append(out, keep)
			}
		}
	}
	return append(out, nil)
}

// failing does an act while the power lasts for some calls, and crashes and opens the station. It returns this, and the
// error of the act.
func failing(t testing.TB, d *post.Disk, s *post.Station, a act, calls int, keep []int) (*post.Station, api.Errno) {
	t.Helper()
	before := s.Records()
	does(t, "Stop", d.Stop(calls), api.OK)
	e := a.do(s)
	if e == api.ErrDown {
		same(t, "the book behind ErrDown", s.Records(), before)
		if _, again := s.Add("another one", 1000000); again != api.ErrDown {
			t.Errorf("Add behind ErrDown: error %d", again)
		}
		does(t, "the same again", a.do(s), api.ErrDown)
	}
	d.Crash(keep)
	return open(t, d, 0, 2), e
}

// P8.1, P8.3, H9: an operation takes effect as a whole or not at all, whenever the power fails, and however writes tear.
func TestAtomic(t *testing.T) {
	long := strings.Repeat("long text ", 20)
	var both [2]bool // whether an operation that returned ErrDown has taken effect, and has not
	for _, first := range []act{addAct(1, 3, "x"), addAct(1, 3, long), letterAct(1, 3, 3, "x"), letterAct(1, 10, 3, long)} {
		for _, keep := range keeps() {
			for calls := 0; ; calls++ {
				d := newDisk(t, 400)
				s, e := failing(t, d, open(t, d, 0, 2), first, calls, keep)
				got := s.Records()
				switch {
				case len(got) > 0:
					same(t, "the whole", got, first.added)
				case e == api.OK:
					t.Fatalf("with the power for %d calls nothing is there", calls)
				}
				if e == api.ErrDown {
					both[min(len(got), 1)] = true
				}
				// What was torn does not disturb what comes behind it.
				own, others := s.Have().Have[0], s.Have().Have[1]
				for _, next := range []act{addAct(own+1, 5, "y"), letterAct(others+1, 4, 5, "z"), addAct(own+2, 6, long)} {
					does(t, "the next one", next.do(s), api.OK)
					got = with(t, got, next)
					same(t, "the book", s.Records(), got)
					d.Crash(keep)
					s = open(t, d, 0, 2)
					same(t, "the book behind a crash", s.Records(), got)
				}
				if e == api.OK {
					break
				}
			}
		}
	}
	if both != [2]bool{true, true} {
		t.Errorf("with and without effect: %v", both)
	}
}

// P8.3: what is torn twice at the same place, by different operations, is still whole or not there.
func TestTornTwice(t *testing.T) {
	r := rand.New(rand.NewPCG(8, 4))
	acts := []act{addAct(1, 3, "x"), addAct(1, 4, strings.Repeat("a", 200)), addAct(1, 5, strings.Repeat("b", 90)), letterAct(1, 4, 3, "post 1"), letterAct(1, 10, 3, strings.Repeat("c", 150))}
	torn := 0
	for range 3000 {
		d := newDisk(t, 200)
		s := open(t, d, 0, 2)
		var book []api.Record
		for range 5 {
			keep := make([]int, r.IntN(40))
			for i := range keep {
				keep[i] = []int{0, 1, 20, 60, 63, 64, 64}[r.IntN(7)]
			}
			var have [2]int
			for _, x := range book {
				have[x.Station]++
			}
			a := acts[r.IntN(len(acts))]
			if have[a.added[0].Station] > 0 {
				continue
			}
			var e api.Errno
			s, e = failing(t, d, s, a, r.IntN(45), keep)
			got := s.Records()
			whole := with(t, book, a)
			if !slices.Equal(got, whole) && (e == api.OK || !slices.Equal(got, book)) {
				t.Fatalf("%d records: %v, with the error %d behind %v", len(got), got, e, book)
			}
			if e != api.OK {
				torn++
			}
			book = got
		}
	}
	if torn < 1000 {
		t.Errorf("only %d torn operations", torn)
	}
}

// P8.1, H9: of several operations that returned ErrDown only the first one can have taken effect.
func TestFurtherOnes(t *testing.T) {
	all := slices.Repeat([]int{64}, 50)
	for calls := range 8 {
		d := newDisk(t, 100)
		s := open(t, d, 0, 2)
		does(t, "Stop", d.Stop(calls), api.OK)
		_, e := s.Add("first", 1)
		if e == api.OK {
			continue
		}
		does(t, "the first one", e, api.ErrDown)
		d.Crash(all)
		// The station was not opened: it does not know what is there.
		refuses(t, s, "second", 1, api.ErrDown)
		hearsNot(t, s, letterOf("post 1", "1 1 5 x"), api.ErrDown)
		d.Crash(all)
		got := open(t, d, 0, 2).Records()
		if len(got) > 1 || len(got) == 1 && got[0].Text != "first" {
			t.Errorf("with the power for %d calls: %v", calls, got)
		}
	}
}

// P8.1, H9: the errors of Open when the power fails, which may be tried again.
func TestOpenWithoutPower(t *testing.T) {
	downs := 0
	for calls := range 4 {
		for _, keep := range keeps() {
			d := newDisk(t, 64)
			does(t, "Stop", d.Stop(calls), api.OK)
			s, e := post.Open(d, 3, 4)
			if (s != nil) != (e == api.OK) || e != api.OK && (e != api.ErrDown || !d.Down()) {
				t.Fatalf("Open: error %d", e)
			}
			if e != api.OK {
				downs++
			}
			d.Crash(keep)
			s = open(t, d, 3, 4)
			adds(t, s, "x", 1, 1)
			d.Crash(nil)
			same(t, "Records", open(t, d, 3, 4).Records(), []api.Record{record(3, 1, 1)})
		}
	}
	if downs == 0 {
		t.Errorf("Open never returned ErrDown")
	}
}

// cost is what an operation costs that adds a number of records.
func cost(records int) int { return 4 + 5*records }

// P8.1, H9: a disk is full only if the operations would cost more than half of its sectors, and then nothing changes.
func TestFull(t *testing.T) {
	r := rand.New(rand.NewPCG(8, 5))
	for _, sectors := range []int{64, 65, 100, 333, 1000} {
		for _, size := range []int{1, 100, 200} {
			for _, letters := range []int{0, 1, 2} {
				d := newDisk(t, sectors)
				s := open(t, d, 0, 2)
				spent, full := 0, 0
				for full < 5 {
					count := 1
					have := s.Have().Have
					a := addAct(have[0]+1, 1000000, strings.Repeat("x", size))
					if letters == 2 || letters == 1 && r.IntN(2) == 0 {
						count = 1 + r.IntN(10)
						a = letterAct(have[1]+1, count, 1000000, strings.Repeat("x", size))
					}
					if have[0] == 400 || have[1] > 390 {
						break
					}
					before := s.Records()
					switch e := a.do(s); e {
					case api.OK:
						spent += cost(count)
						same(t, "the book", s.Records(), with(t, before, a))
					case api.ErrFull:
						full++
						if spent+cost(count) <= sectors/2 {
							t.Fatalf("%d sectors are full at %d and %d", sectors, spent, cost(count))
						}
						same(t, "the book behind ErrFull", s.Records(), before)
					default:
						t.Fatalf("error %d", e)
					}
				}
				want := s.Records()
				d.Crash([]int{64, 64})
				same(t, "a full disk", open(t, d, 0, 2).Records(), want)
			}
		}
	}
}

// P8.3: operations that were torn do not use up a disk.
func TestTornRoom(t *testing.T) {
	d := newDisk(t, 64)
	s := open(t, d, 0, 2)
	for range 200 {
		does(t, "Stop", d.Stop(1), api.OK)
		refuses(t, s, strings.Repeat("x", 200), 1, api.ErrDown)
		d.Crash([]int{40})
		s = open(t, d, 0, 2)
	}
	for k := range 3 {
		adds(t, s, strings.Repeat("x", 200), 1, k+1)
	}
}
