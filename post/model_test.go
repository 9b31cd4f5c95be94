package post_test

import (
	"math/rand/v2"
	"slices"
	"strconv"
	"testing"

	"lagan/api"
	"lagan/post"
)

// The model says what chapter 8 says, as directly as possible, and slowly.

// slowCheck is CheckRecords of records that are well-formed.
func slowCheck(l []api.Record) (int, api.Errno) {
	for i, x := range l {
		if i > 0 {
			y := l[i-1]
			if x.Station < y.Station || x.Station == y.Station && x.Number <= y.Number {
				return i, api.ErrTwice
			}
		}
		follows := i > 0 && l[i-1].Station == x.Station && x.Number == l[i-1].Number+1
		if x.Number != 1 && !follows {
			return i, api.ErrGap
		}
		if follows && x.Hour < l[i-1].Hour {
			return i, api.ErrTime
		}
	}
	return 0, api.OK
}

// slowOrder takes the least record that is left again and again.
func slowOrder(l []api.Record) []api.Record {
	var out []api.Record
	left := slices.Clone(l)
	for len(left) > 0 {
		least := 0
		for i, x := range left {
			y := left[least]
			if x.Hour < y.Hour || x.Hour == y.Hour && (x.Station < y.Station || x.Station == y.Station && x.Number < y.Number) {
				least = i
			}
		}
		out = append(out, left[least])
		left = slices.Delete(left, least, least+1)
	}
	return out
}

func refOf(x api.Record) api.Ref { return api.Ref{Station: x.Station, Number: x.Number} }

// slowMerge goes through all Refs.
func slowMerge(a, b []api.Record) ([]api.Record, api.Errno) {
	records := map[api.Ref]api.Record{}
	for _, x := range slices.Concat(a, b) {
		if y, is := records[refOf(x)]; is && x != y {
			return nil, api.ErrState
		}
		records[refOf(x)] = x
	}
	var out []api.Record
	for s := range 5 {
		for k := 1; k <= 400; k++ {
			if x, is := records[api.Ref{Station: s, Number: k}]; is {
				out = append(out, x)
			}
		}
	}
	return out, api.OK
}

// randomBook returns a book of n stations: with few texts and hours, so that books are often equal in part.
func randomBook(r *rand.Rand, n, most int) []api.Record {
	var out []api.Record
	for s := range n {
		hour := r.IntN(3)
		for k := range r.IntN(most + 1) {
			out = append(out, api.Record{Station: s, Number: k + 1, Hour: hour, Text: "text"})
			hour += r.IntN(2)
		}
	}
	return out
}

// partOf returns a part of a book that is a book.
func partOf(r *rand.Rand, l []api.Record) []api.Record {
	var most [5]int
	for i := range most {
		most[i] = r.IntN(6)
	}
	return slices.DeleteFunc(slices.Clone(l), func(x api.Record) bool { return x.Number > most[x.Station] })
}

// P8.1, H4: CheckRecords against the model, on books that are spoilt.
func TestCheckModel(t *testing.T) {
	r := rand.New(rand.NewPCG(8, 6))
	seen := map[api.Errno]int{}
	for range 20000 {
		l := randomBook(r, 3, 4)
		for range r.IntN(3) {
			if len(l) == 0 {
				break
			}
			i := r.IntN(len(l))
			switch r.IntN(5) {
			case 0:
				l = slices.Delete(l, i, i+1)
			case 1:
				l = slices.Insert(l, r.IntN(len(l)+1), l[i])
			case 2:
				l[i].Hour = r.IntN(5)
			case 3:
				l[i].Station = r.IntN(3)
			default:
				l[i].Number = 1 + r.IntN(5)
			}
		}
		i, e := post.CheckRecords(3, l)
		wantI, want := slowCheck(l)
		if i != wantI || e != want {
			t.Fatalf("%v: %d, error %d, want %d, %d", l, i, e, wantI, want)
		}
		seen[e]++
	}
	for _, e := range []api.Errno{api.OK, api.ErrTwice, api.ErrGap, api.ErrTime} {
		if seen[e] < 500 {
			t.Errorf("the error %d came only %d times", e, seen[e])
		}
	}
}

// P8.5, H6: the one order, and its beginning until an hour.
func TestOrderModel(t *testing.T) {
	r := rand.New(rand.NewPCG(8, 7))
	for range 3000 {
		n := 2 + r.IntN(4)
		l := randomBook(r, n, 6)
		all, e := post.Order(n, l)
		does(t, "Order", e, api.OK)
		same(t, "Order", all, slowOrder(l))
		hour := r.IntN(8) - 1
		part, e := post.Until(n, l, hour)
		does(t, "Until", e, api.OK)
		_, e = post.CheckRecords(n, part)
		does(t, "the book until an hour", e, api.OK)
		first, e := post.Order(n, part)
		does(t, "Order", e, api.OK)
		same(t, "the order until an hour", first, all[:len(first)])
		if len(first) < len(all) && all[len(first)].Hour <= hour || len(first) > 0 && first[len(first)-1].Hour > hour {
			t.Fatalf("until %d: %v of %v", hour, first, all)
		}
	}
}

// P8.6, H6, H7: what is merged, and what is lacking.
func TestMergeModel(t *testing.T) {
	r := rand.New(rand.NewPCG(8, 8))
	seen := map[api.Errno]int{}
	for range 5000 {
		whole := randomBook(r, 4, 5)
		a, b, c := partOf(r, whole), partOf(r, whole), partOf(r, whole)
		if r.IntN(3) == 0 {
			c = randomBook(r, 4, 5)
		}
		if len(b) > 0 && r.IntN(3) == 0 {
			b[r.IntN(len(b))].Text = "another text"
		}
		merge := func(a, b []api.Record, before api.Errno) ([]api.Record, api.Errno) {
			if before != api.OK {
				return nil, before
			}
			got, e := post.Merge(4, a, b)
			want, wantE := slowMerge(a, b)
			same(t, "Merge", got, want)
			does(t, "Merge", e, wantE)
			back, e := post.Merge(4, b, a)
			same(t, "Merge the other way round", back, want)
			does(t, "Merge the other way round", e, wantE)
			return got, e
		}
		ab, abE := merge(a, b, api.OK)
		bc, bcE := merge(b, c, api.OK)
		abc, e := merge(ab, c, abE)
		cba, e2 := merge(a, bc, bcE)
		if (e == api.OK) != (e2 == api.OK) {
			t.Fatalf("merging three: %d, %d", e, e2)
		}
		same(t, "three books", cba, abc)
		seen[e]++
		self, e := merge(whole, whole, api.OK)
		does(t, "itself", e, api.OK)
		same(t, "itself", self, whole)
		part, e := merge(whole, a, api.OK)
		does(t, "a part", e, api.OK)
		same(t, "a part", part, whole)
		checkLacks(t, whole, a)
	}
	if seen[api.OK] < 500 || seen[api.ErrState] < 500 {
		t.Errorf("errors: %v", seen)
	}
}

// checkLacks checks what somebody with a part of a book lacks: with it this is the book.
func checkLacks(t *testing.T, whole, part []api.Record) {
	t.Helper()
	s, e := post.StockOf(4, part)
	does(t, "StockOf", e, api.OK)
	for i := range 5 {
		count := len(slices.DeleteFunc(slices.Clone(part), func(x api.Record) bool { return x.Station != i }))
		if s.Have[i] != count {
			t.Fatalf("the stock of %v: %v", part, s)
		}
	}
	l, e := post.Lacks(4, whole, s)
	does(t, "Lacks", e, api.OK)
	same(t, "Lacks", l, slices.DeleteFunc(slices.Clone(whole), func(x api.Record) bool { return slices.Contains(part, x) }))
}

// slowStation is a station as the chapter's words say.
type slowStation struct {
	station, n int
	book       []api.Record
}

func (s *slowStation) find(station, number int) (api.Record, bool) {
	for _, x := range s.book {
		if x.Station == station && x.Number == number {
			return x, true
		}
	}
	return api.Record{}, false
}

func (s *slowStation) have(station int) int {
	k := 0
	for {
		if _, is := s.find(station, k+1); !is {
			return k
		}
		k++
	}
}

func (s *slowStation) greeting() string {
	m := "have"
	for i := range s.n {
		m += " " + strconv.Itoa(s.have(i))
	}
	return m + "\n"
}

// hearGreeting answers how many records of each station somebody has.
func (s *slowStation) hearGreeting(have []int) string {
	var l []api.Record
	for i := range s.n {
		for k := have[i] + 1; k <= s.have(i) && len(l) < 10; k++ {
			x, _ := s.find(i, k)
			l = append(l, x)
		}
	}
	if len(l) > 0 {
		return textOf(l)
	}
	for i := range s.n {
		if have[i] > s.have(i) {
			return s.greeting()
		}
	}
	return ""
}

func textOf(l []api.Record) string {
	m := "post " + strconv.Itoa(len(l)) + "\n"
	for _, x := range l {
		line, _ := post.WriteRecord(5, x)
		m += line + "\n"
	}
	return m
}

// hearLetter takes records one after the other.
func (s *slowStation) hearLetter(l []api.Record) (string, api.Errno) {
	trial := &slowStation{station: s.station, n: s.n, book: slices.Clone(s.book)}
	added := false
	for _, x := range l {
		y, is := trial.find(x.Station, x.Number)
		switch {
		case is && x != y, !is && x.Station == s.station:
			return "", api.ErrState
		case !is && x.Number == trial.have(x.Station)+1:
			if before, is := trial.find(x.Station, x.Number-1); is && before.Hour > x.Hour {
				return "", api.ErrState
			}
			trial.book, added = append(trial.book, x), true
		}
	}
	if !added {
		return "", api.OK
	}
	s.book = trial.book
	return s.greeting(), api.OK
}

// randomLetter returns records in the order of their Refs: of a book, some of them spoilt.
func randomLetter(r *rand.Rand, book []api.Record) []api.Record {
	if len(book) == 0 {
		return []api.Record{record(r.IntN(3), 1+r.IntN(2), r.IntN(4))}
	}
	at := r.IntN(len(book))
	l := slices.Clone(book[at:min(at+1+r.IntN(10), len(book))])
	if len(l) > 1 && r.IntN(4) == 0 {
		l = slices.Delete(l, 0, 1)
	}
	switch i := r.IntN(len(l)); r.IntN(12) {
	case 0:
		l[i].Text = "spoilt"
	case 1:
		l[i].Hour = r.IntN(4)
	case 2:
		l = append(l[:i], l[i+1:]...)
		if len(l) == 0 {
			l = append(l, record(2, 399, 0))
		}
	case 3:
		last := l[len(l)-1]
		l = append(l[max(0, len(l)-9):], api.Record{Station: last.Station, Number: last.Number + 1, Hour: last.Hour, Text: "made up"})
	}
	return l
}

// P8.1, P8.8, H10 to H12: a station against the model, with crashes between.
func TestStationModel(t *testing.T) {
	r := rand.New(rand.NewPCG(8, 9))
	seen := map[api.Errno]int{}
	answers := map[bool]int{}
	for range 150 {
		world := randomBook(r, 3, 25) // what the other stations have written
		d := newDisk(t, 6000)
		s, m := open(t, d, 0, 3), &slowStation{station: 0, n: 3}
		for range 40 {
			switch r.IntN(4) {
			case 0:
				hour := r.IntN(8)
				want := api.OK
				if last, is := m.find(0, m.have(0)); is && last.Hour > hour {
					want = api.ErrTime
				} else {
					m.book = append(m.book, record(0, m.have(0)+1, hour))
				}
				k, e := s.Add("x", hour)
				if e != want || e == api.OK && k != m.have(0) {
					t.Fatalf("Add: %d, error %d, want %d", k, e, want)
				}
			case 1:
				have := []int{r.IntN(15), r.IntN(30), r.IntN(30)}
				got, e := s.Hear("have " + strconv.Itoa(have[0]) + " " + strconv.Itoa(have[1]) + " " + strconv.Itoa(have[2]) + "\n")
				if want := m.hearGreeting(have); got != want || e != api.OK {
					t.Fatalf("hearing %v: %q, error %d, want %q", have, got, e, want)
				}
			default:
				others := slices.DeleteFunc(slices.Clone(world), func(x api.Record) bool { return x.Station == 0 })
				l := randomLetter(r, slices.Concat(s.Own(), others))
				got, e := s.Hear(textOf(l))
				want, wantE := m.hearLetter(l)
				if got != want || e != wantE {
					t.Fatalf("hearing %v: %q, error %d, want %q, %d", l, got, e, want, wantE)
				}
				seen[e]++
				answers[got != ""]++
				if got, again := s.Hear(textOf(l)); got != "" || again != e {
					t.Fatalf("hearing it again: %q, error %d", got, again)
				}
			}
			if r.IntN(10) == 0 {
				d.Crash([]int{r.IntN(65), r.IntN(65)})
				s = open(t, d, 0, 3)
			}
			want, _ := slowMerge(m.book, nil)
			same(t, "Records", s.Records(), want)
			if s.Greeting() != m.greeting() {
				t.Fatalf("Greeting: %q, want %q", s.Greeting(), m.greeting())
			}
		}
	}
	if seen[api.OK] < 1000 || seen[api.ErrState] < 300 || answers[true] < 100 {
		t.Errorf("errors: %v, answers: %v", seen, answers)
	}
}

// network is stations on disks, and the messages between them, which may be lost, late or doubled.
type network struct {
	t        *testing.T
	r        *rand.Rand
	n        int
	disks    []*post.Disk
	stations []*post.Station
	kept     []map[api.Record]bool // what operations that returned OK added, for each station
	mail     []mail
	downs    int
}

type mail struct {
	from, to int
	text     string
}

func newNetwork(t *testing.T, r *rand.Rand, n int) *network {
	w := &network{t: t, r: r, n: n}
	for i := range n {
		w.disks = append(w.disks, newDisk(t, 4000))
		w.stations = append(w.stations, open(t, w.disks[i], i, n))
		w.kept = append(w.kept, map[api.Record]bool{})
	}
	return w
}

// note keeps what a station has behind an operation that returned OK, and crashes and opens one that is down.
func (w *network) note(i int, e api.Errno) {
	switch e {
	case api.OK:
		for _, x := range w.stations[i].Records() {
			w.kept[i][x] = true
		}
	case api.ErrDown:
		w.downs++
		keep := make([]int, w.r.IntN(30))
		for k := range keep {
			keep[k] = []int{0, 30, 63, 64, 64}[w.r.IntN(5)]
		}
		w.disks[i].Crash(keep)
		w.stations[i] = open(w.t, w.disks[i], i, w.n)
	}
}

// hear lets a message be heard, and puts the answer on the way.
func (w *network) hear(m mail) {
	answer, e := w.stations[m.to].Hear(m.text)
	if e != api.OK && e != api.ErrDown {
		w.t.Fatalf("hearing %q: error %d", m.text, e)
	}
	w.note(m.to, e)
	if answer != "" {
		w.mail = append(w.mail, mail{m.to, m.from, answer})
	}
}

// step does something at random.
func (w *network) step(hour int) {
	i := w.r.IntN(w.n)
	switch w.r.IntN(8) {
	case 0, 1:
		_, e := w.stations[i].Add("text "+strconv.Itoa(hour), hour)
		w.note(i, e)
	case 2:
		w.disks[i].Stop(w.r.IntN(12))
	case 3, 4:
		j := (i + 1 + w.r.IntN(w.n-1)) % w.n
		w.mail = append(w.mail, mail{i, j, w.stations[i].Greeting()})
	default:
		if len(w.mail) == 0 {
			return
		}
		k := w.r.IntN(len(w.mail))
		m := w.mail[k]
		if w.r.IntN(4) > 0 { // otherwise it comes once more
			w.mail = slices.Delete(w.mail, k, k+1)
		}
		if w.r.IntN(5) > 0 { // otherwise it is lost
			w.hear(m)
		}
	}
}

// check checks that each station has a book with all that was kept, and that books of two do not contradict each other.
func (w *network) check() {
	for i, s := range w.stations {
		l := s.Records()
		if k, e := post.CheckRecords(w.n, l); e != api.OK {
			w.t.Fatalf("the record %d of %d: error %d", k, i, e)
		}
		for x := range w.kept[i] {
			if !slices.Contains(l, x) {
				w.t.Fatalf("the station %d has lost %v", i, x)
			}
		}
		if _, e := post.Merge(w.n, l, w.stations[0].Records()); e != api.OK {
			w.t.Fatalf("the books of 0 and %d: error %d", i, e)
		}
	}
}

// settle lets each station greet each other one, and all be heard.
func (w *network) settle() {
	for i, d := range w.disks {
		d.Crash(nil)
		w.stations[i] = open(w.t, d, i, w.n)
	}
	w.mail = nil
	for i := range w.n {
		for j := range w.n {
			if i == j {
				continue
			}
			w.mail = append(w.mail, mail{i, j, w.stations[i].Greeting()})
			for len(w.mail) > 0 {
				m := w.mail[0]
				w.mail = w.mail[1:]
				w.hear(m)
			}
		}
	}
}

// P8.3, P8.4: nothing is lost, and at last all have one book.
func TestNetwork(t *testing.T) {
	r := rand.New(rand.NewPCG(8, 10))
	downs := 0
	for range 60 {
		w := newNetwork(t, r, 2+r.IntN(4))
		for hour := range 250 {
			w.step(hour)
			if hour%10 == 0 {
				w.check()
			}
		}
		w.check()
		w.settle()
		w.check()
		all := w.stations[0].Records()
		for _, s := range w.stations {
			same(t, "the one book", s.Records(), all)
		}
		if len(all) == 0 {
			t.Errorf("nothing was written")
		}
		downs += w.downs
	}
	if downs < 500 {
		t.Errorf("only %d operations failed", downs)
	}
}
