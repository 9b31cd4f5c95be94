package coast_test

import (
	"math/rand/v2"
	"slices"
	"strconv"
	"strings"
	"testing"

	"lagan/api"
	"lagan/coast"
	"lagan/inquiry"
	"lagan/purse"
)

// The seasons of random runs.
var seasons = []string{
	source + "float oil high\n",
	"sea 3 1\nheights 0 0 9\ntide 0 1\ntide 1 9\nloss 1 0 1 1 1 0 0\nloss 2 1 2 1 1 0 3\n",
}

// run is a random run of lines of a script on a coast and on its model.
type run struct {
	*rand.Rand
	*testing.T
	seed    uint64
	n       int
	c       *coast.Coast
	m       *model
	lines   []string
	printed []string
	made    []int // the Ids of the records that were written
	sales   []int // those of them that are sales
	parcels []int // that they may have made
}

func (r *run) some(words ...string) string { return words[r.IntN(len(words))] }

func (r *run) station() int { return r.IntN(r.n) }

// one returns one of some numbers, most likely a late one.
func (r *run) one(l []int, other int) int {
	if len(l) == 0 || r.IntN(40) == 0 {
		return other
	}
	return l[len(l)-1-min(r.IntN(len(l)), r.IntN(len(l)))]
}

func (r *run) id() int { return r.one(r.made, 7) }

func (r *run) parcel() int { return r.one(r.parcels, 90) }

func (r *run) party() int { return 1 + r.IntN(5) }

func (r *run) span(most int) string {
	low := 1 + r.IntN(most)
	return words(strconv.Itoa(low), low+r.IntN(most))
}

// text returns the text of a record that would have an Id.
func (r *run) text(id int) string {
	early := max(r.c.Now()-r.IntN(3), 0)
	pack := words("", 1, 1+r.IntN(3))
	kind := r.IntN(28)
	if len(r.made) < 7 {
		kind = []int{0, 0, 4, 5, 17}[r.IntN(5)]
	}
	switch kind {
	case 0, 1, 2:
		return "paper package" + pack + " 0 " + r.some("ab", "?b", "a?") + " oil " + words(r.span(60), 1+r.IntN(3), r.party())
	case 3:
		return r.some("paper total 1 0 3 "+r.span(90), words("wind wind 0", r.IntN(9), -1, 1, -1, 1))
	case 4, 5, 6, 7, 8:
		r.parcels = append(r.parcels, 10*id)
		return words("report", early) + words(" found", r.IntN(2)) + " " + r.some("ab", "??", "a?") + " oil " + r.span(20) + words("", r.party())
	case 9:
		r.parcels = append(r.parcels, 10*id, 10*id+1)
		return words("report", r.c.Now()) + words(" divided", r.parcel(), 2)
	case 10:
		r.parcels = append(r.parcels, 10*id)
		return words("report", r.c.Now()) + words(" joined", r.parcel(), r.parcel())
	case 11:
		return words("report", r.c.Now()) + words(" same", r.parcel(), r.parcel())
	case 13:
		return words("report", r.c.Now()) + r.some(words(" weighed", r.parcel())+" "+r.span(20), words(" hidden", r.parcel(), 3), words(" shown", r.parcel(), 3))
	case 12, 14, 15, 16:
		return words("deed", early) + r.some(" paid", " sold") + pack + words("", r.party(), r.party(), 1, 1+r.IntN(4))
	case 17, 25:
		return words("rate rate", r.IntN(r.c.Now()+1)) + " " + r.some("all", "oil") + words("", 1, 2+r.IntN(5), r.IntN(9), r.IntN(5))
	case 18:
		return words("deed", early) + r.some(" claim"+pack+words("", r.party()), " left"+pack+words("", r.party(), r.IntN(3)), words(" withdraw", r.id()))
	case 19, 20, 21, 22, 23:
		return words("sale", early) + words(" sale", r.parcel(), 1+r.IntN(300), r.IntN(5), 3, r.IntN(early+1))
	case 24:
		return r.some("nonsense", "paper", words("posting sale", r.parcel(), 9, 5, 0), words("posting pay", 7, r.parcel(), 9, 5, 0), "", "paper void 5 ")
	}
	if r.IntN(2) == 0 && len(r.sales) > 0 {
		return words("sale void", r.one(r.sales, 7))
	}
	return r.some("paper", "report", "deed", "rate", "sale", "wind") + words(" void", r.id())
}

// question returns a question of any kind.
func (r *run) question() string {
	known := words("at", max(r.c.Now()-r.IntN(9)*r.IntN(2), 0))
	hour := r.c.Now() + r.IntN(2)*r.IntN(20000)
	pack := words("", 1, 1+r.IntN(3))
	return known + r.some(words(" weight", r.parcel()), " package"+pack, words(" place", 1, 1+r.IntN(2), r.IntN(2), r.IntN(2), r.IntN(9)), " assign",
		words(" may", r.parcel())+pack, " title"+pack+words("", hour), words(" sure", r.parcel(), hour), words(" due", r.parcel(), hour), words(" due", r.parcel(), r.c.Now()))
}

// line returns two stations, most likely those of a line on which there is something.
func (r *run) line() (from, to int) {
	from, to = r.station(), r.station()
	for range r.IntN(9) {
		if len(r.m.lines[[2]int{from, to}]) == 0 {
			from, to = r.station(), r.station()
		}
	}
	return from, to
}

// command returns a line that changes something.
func (r *run) command() string {
	from, to := r.line()
	index := r.IntN(3) * r.IntN(2)
	switch r.IntN(30) {
	case 0, 1, 2:
		return words("pass", max(r.c.Now()+[]int{0, 1, 1, 2, 3, 2, 1, 9000, -1}[r.IntN(9)], 0))
	case 3, 4, 5, 6, 7, 8, 9, 10:
		from *= r.IntN(2) // most of them the receiver
		return words("tell", from) + " " + r.text(5*(len(own(r.c, from))+1)+from)
	case 11, 12:
		return "settle"
	case 13, 14, 15:
		return words("send", from, to)
	case 16, 17, 18, 19, 20, 21, 22, 23, 24:
		return words("carry", from, to, index)
	case 25:
		return words("lose", from, to, index)
	case 26:
		return words("repeat", from, to, index)
	case 27:
		return words("stop", from, r.IntN(7))
	}
	keep := []int{r.IntN(66) - 1, 64, 64, 64}
	return words("crash", append([]int{from}, keep[:r.IntN(5)]...)...)
}

// asked returns a line that asks something.
func (r *run) asked() string {
	s := r.IntN(r.n + 1)
	switch r.IntN(7) {
	case 0:
		return words(r.some("records", "books", "held"), s)
	case 1:
		return words("due", s, r.parcel())
	case 2:
		return words("has", s, r.IntN(7), r.parcel())
	case 3:
		line, e := r.c.Ask(r.station(), r.question())
		if e == api.OK {
			return words("audit", s) + " " + r.some(line, line, line+" 1")
		}
	}
	return words("ask", s) + " " + r.question()
}

// play does a line on the coast and on the model, and checks that they print the same.
func (r *run) play(line string) {
	r.Helper()
	want := played(r.m, r.n, line)
	got := played(r.c, r.n, line)
	if got != want {
		r.Fatalf("seed %d, line %d, %q: %q, want %q", r.seed, len(r.lines), line, got, want)
	}
	r.lines = append(r.lines, line)
	r.printed = append(r.printed, got)
}

// played returns what a line prints by the methods of a coast.
func played(k keeper, n int, line string) string {
	l := strings.Split(line, " ")
	a := make([]int, 9)
	for i, word := range l[1:] {
		if i < len(a) {
			a[i], _ = strconv.Atoi(word)
		}
	}
	rest := ""
	if len(l) > 2 {
		rest = strings.Join(l[2:], " ")
	}
	switch l[0] {
	case "pass":
		return done("ok", k.Pass(a[0]))
	case "tell":
		number, e := k.Tell(a[0], rest)
		return done(words("number", number), e)
	case "settle":
		number, e := k.Settle()
		return done(words("number", number), e)
	case "send":
		return done("ok", k.Send(a[0], a[1]))
	case "carry":
		return done("ok", k.Carry(a[0], a[1], a[2]))
	case "lose":
		return done("ok", k.Lose(a[0], a[1], a[2]))
	case "repeat":
		return done("ok", k.Repeat(a[0], a[1], a[2]))
	case "stop":
		return done("ok", k.Stop(a[0], a[1]))
	case "crash":
		return done("ok", k.Crash(a[0], a[1:len(l)-1]))
	}
	return playedQuestion(k, n, l[0], a, rest)
}

func playedQuestion(k keeper, n int, word string, a []int, rest string) string {
	switch word {
	case "records":
		if a[0] >= n {
			return "error 1\n"
		}
		l := k.Records(a[0])
		out := words("records", len(l)) + "\n"
		for _, x := range l {
			out += words("", x.Station, x.Number, x.Hour)[1:] + " " + x.Text + "\n"
		}
		return out
	case "books":
		if a[0] >= n {
			return "error 1\n"
		}
		b := k.Books(a[0])
		return words("books", len(b.Papers), len(b.Winds), len(b.Reports), len(b.Deeds), len(b.Rates), len(b.Sales), len(b.Postings)) + "\n"
	case "ask":
		line, e := k.Ask(a[0], rest)
		_, answer, _ := strings.Cut(line, " = ")
		values, _, _ := strings.Cut(answer, "|")
		return done(strings.TrimSuffix("answer "+values, " "), e)
	case "audit":
		return done("ok", k.Audit(a[0], rest))
	case "due":
		l, e := k.Due(a[0], a[1])
		out := words("due", len(l))
		for _, x := range l {
			out += words("\n"+strconv.Itoa(x.Party), x.Amount)
		}
		return done(out, e)
	case "held":
		pence, e := k.Held(a[0])
		return done(words("held", pence), e)
	case "has":
		pence, e := k.Has(a[0], a[1], a[2])
		return done(words("has", pence), e)
	}
	return "no such line"
}

func done(said string, e api.Errno) string {
	if e != api.OK {
		said = words("error", int(e))
	}
	return said + "\n"
}

// isDown reports whether a station is down: a Stop that cannot be is refused for that first.
func (r *run) isDown(station int) bool { return r.c.Stop(station, -1) == api.ErrDown }

// step plays a line, and checks what is promised of it.
func (r *run) step(line string) {
	r.Helper()
	station, _ := strconv.Atoi(strings.Split(line+" 0", " ")[1])
	before := allRecords(r.c, r.n)
	switch strings.Split(line, " ")[0] {
	case "tell":
		r.play(line)
		if strings.HasPrefix(r.printed[len(r.printed)-1], "number") {
			r.checkTold(before, station)
		}
	case "settle":
		r.settle()
	case "crash":
		before := answersOf(r.c, station)
		isDown := r.isDown(station)
		r.play(line)
		if !isDown {
			same(r, "the answers behind a crash", answersOf(r.c, station), before)
		}
	default:
		r.play(line)
	}
}

// P10.6: a record more, and it is entered; all else is as before.
func (r *run) checkTold(before [][]api.Record, station int) {
	r.Helper()
	number := len(own(r.c, station))
	id := 5*number + station
	r.made = append(r.made, id)
	if strings.HasPrefix(own(r.c, station)[number-1].Text, "sale") {
		r.sales = append(r.sales, id)
	}
	for s, l := range allRecords(r.c, r.n) {
		if s == station {
			i := slices.IndexFunc(l, func(x api.Record) bool { return x.Station == s && x.Number == number })
			season := r.c.Books(s).Season
			_, errors, _ := inquiry.Told(season, r.n, l)
			does(r, "to enter the record", errors[slices.Index(ordered(l), l[i])], api.OK)
			l = slices.Delete(l, i, i+1)
		}
		same(r, "the other records", l, before[s])
	}
}

// over returns by how much parties have more than is due to them, by the receiver's books.
func (r *run) over() []api.Due {
	b := r.c.Books(0)
	dues, _ := inquiry.Dues(b, r.c.Now(), r.c.Now())
	l, _ := purse.Over(b.Postings, dues)
	return l
}

// P10.5: behind a Settle there is nothing to settle, and nobody has more than is due of a parcel of which nobody had.
func (r *run) settle() {
	r.Helper()
	before := r.over()
	r.play("settle")
	if !strings.HasPrefix(r.printed[len(r.printed)-1], "number") {
		return
	}
	for _, x := range r.over() {
		if !slices.ContainsFunc(before, func(y api.Due) bool { return y.Parcel == x.Parcel }) {
			r.Errorf("seed %d: %+v is over", r.seed, x)
		}
	}
	r.play("settle")
	if out := r.printed[len(r.printed)-1]; out != "number 0\n" && !strings.HasPrefix(out, "error") {
		r.Errorf("seed %d: another settle: %q", r.seed, out)
	}
}

// randomRun begins a coast, and plays random lines on it.
func randomRun(t *testing.T, seed uint64, count int) *run {
	r := &run{Rand: rand.New(rand.NewPCG(10, seed)), T: t, seed: seed}
	season := seasons[r.IntN(len(seasons))]
	r.n = 2 + r.IntN(3)
	r.c, r.m = coastWith(t, r.n, 1000, season), newModel(t, r.n, 1000, season)
	r.lines = append(r.lines, words("setup", r.n, 1000, strings.Count(season, "\n"))+"\n"+strings.TrimSuffix(season, "\n"))
	r.printed = append(r.printed, "ok\n")
	for range count {
		if r.IntN(4) == 0 {
			r.play(r.asked())
			continue
		}
		line := r.command()
		if strings.HasSuffix(line, " ") {
			continue // no text: a script has no such line
		}
		r.step(line)
		if r.IntN(8) == 0 {
			checkBook(t, r.c, r.n)
		}
	}
	return r
}

// P10.1, P10.3, P10.5, P10.6, P10.7, P10.8: random runs do what the model does, and keep what is promised; scripts print
// what the methods return, and those that begin alike print alike.
func TestRandomRuns(t *testing.T) {
	const runs = 60
	var pays, backs [runs]int
	t.Run("runs", func(t *testing.T) {
		for seed := range uint64(runs) {
			t.Run(strconv.Itoa(int(seed)), func(t *testing.T) {
				t.Parallel()
				r := randomRun(t, seed, 260)
				r.checkScripts()
				r.end()
				for _, p := range r.c.Books(0).Postings {
					switch p.Kind {
					case api.PostPay:
						pays[seed]++
					case api.PostBack:
						backs[seed]++
					}
				}
			})
		}
	})
	// Otherwise they would show little.
	for what, count := range map[string][runs]int{"payments": pays, "clawbacks": backs} {
		all := 0
		for _, n := range count {
			all += n
		}
		t.Log(all, what)
		if all < 30 {
			t.Errorf("only %d %s", all, what)
		}
	}
}

// checkScripts runs the lines as a script, and some of the first ones.
func (r *run) checkScripts() {
	r.Helper()
	for _, count := range []int{1, len(r.lines) / 2, len(r.lines)} {
		script, want := strings.Join(r.lines[:count], "\n"), strings.Join(r.printed[:count], "")
		if len(script) > api.MaxScript {
			r.Fatalf("a script of %d bytes", len(script))
		}
		out, wrong, e := coast.Run(script)
		got := strings.SplitAfter(out, "\n")
		for i, line := range strings.SplitAfter(want, "\n") {
			if i < len(got) && got[i] != line {
				r.Fatalf("the line %d that is printed: %q, want %q", i+1, got[i], line)
			}
		}
		if out != want || wrong != 0 || e != api.OK {
			r.Errorf("Run of %d lines: the line %d, error %d", count, wrong, e)
		}
	}
}

// end lets all exchange all (P10.2, P10.4), and settle, and exchange that.
func (r *run) end() {
	r.Helper()
	for s := range r.n {
		does(r, "Crash", r.c.Crash(s, nil), api.OK)
	}
	exchange(r, r.c, r.n)
	does(r, "Pass", r.c.Pass(r.c.Now()+1), api.OK)
	if _, e := r.c.Settle(); e != api.OK {
		r.Errorf("seed %d: Settle: error %d", r.seed, e)
	}
	exchange(r, r.c, r.n)
	for s := range r.n {
		same(r, "the records", r.c.Records(s), r.c.Records(0))
		same(r, "the books", r.c.Books(s), r.c.Books(0))
		same(r, "the answers", answersOf(r.c, s), answersOf(r.c, 0))
	}
	checkBook(r, r.c, r.n)
	for range 10 {
		line, e := r.c.Ask(r.station(), r.question())
		if e == api.OK {
			does(r, "Audit of "+line, r.c.Audit(r.station(), line), api.OK)
		}
	}
}
