package inquiry_test

import (
	"maps"
	"math/rand/v2"
	"reflect"
	"slices"
	"strconv"
	"strings"
	"testing"

	"lagan/api"
	"lagan/award"
	"lagan/cargo"
	"lagan/claim"
	"lagan/find"
	"lagan/inquiry"
	"lagan/match"
	"lagan/post"
)

// The model says what chapter 9 says, as directly as possible, and slowly.

// The season of the chapter's examples.
const sourceC = "sea 2 1\nheights 0 0\ntide 0 0\nloss 1 0 0 1 1 0 0\n"

// The records of the chapter's examples.
var exampleLines = []string{
	"0 1 0 paper package 1 1 0 ab oil 40 60 2 7",
	"0 2 0 paper package 1 2 0 cd oil 5 9 1 8",
	"0 3 10 rate rate 0 all 1 5 0 0",
	"0 4 20 sale 20 sale 60 100 0 0 0",
	"1 1 5 report 3 found 1 a? oil 10 20 4",
	"1 2 6 report 5 found 0 ?? oil 30 30 5",
}

// seasonOf returns the season with a source.
func seasonOf(t testing.TB, src string) api.Season {
	t.Helper()
	c, fault := inquiry.ParseSeason(src)
	if fault != (api.Fault{}) {
		t.Fatalf("ParseSeason of %q: %+v", src, fault)
	}
	return c
}

func seasonC(t testing.TB) api.Season { return seasonOf(t, sourceC) }

// recordOf returns the record with a line.
func recordOf(t testing.TB, line string) api.Record {
	t.Helper()
	x, e := post.ReadRecord(5, line)
	if e != api.OK {
		t.Fatalf("ReadRecord of %q: error %d", line, e)
	}
	return x
}

func recordsOf(t testing.TB, lines ...string) []api.Record {
	t.Helper()
	var l []api.Record
	for _, line := range lines {
		l = append(l, recordOf(t, line))
	}
	return l
}

// byRefs returns records in the order of a book.
func byRefs(l []api.Record) []api.Record {
	l = slices.Clone(l)
	slices.SortStableFunc(l, func(a, b api.Record) int { return 1000*(a.Station-b.Station) + a.Number - b.Number })
	return l
}

// told returns the books of records with some lines, all of which are entered.
func told(t testing.TB, c api.Season, lines ...string) api.Books {
	t.Helper()
	b, errors, e := inquiry.Told(c, 5, byRefs(recordsOf(t, lines...)))
	if e != api.OK || slices.ContainsFunc(errors, func(e api.Errno) bool { return e != api.OK }) {
		t.Fatalf("Told of %q: errors %v, error %d", lines, errors, e)
	}
	return b
}

// entered returns books with some records entered, one after the other.
func entered(t testing.TB, b api.Books, lines ...string) api.Books {
	t.Helper()
	for _, line := range lines {
		var e api.Errno
		b, e = inquiry.Enter(b, recordOf(t, line))
		if e != api.OK {
			t.Fatalf("Enter of %q: error %d", line, e)
		}
	}
	return b
}

// booksB are those of the chapter's examples.
func booksB(t testing.TB) api.Books { return told(t, seasonC(t), exampleLines...) }

// wrongBooks returns books that are not valid, with the errors of CheckBooks.
func wrongBooks(t testing.TB) map[api.Errno]api.Books {
	noSeason, twice, early, noReport, many, sold, poor := booksB(t), booksB(t), booksB(t), booksB(t), booksB(t), booksB(t), booksB(t)
	noSeason.Season.Sea.Cells = 0
	twice.Papers = append(twice.Papers, twice.Papers[0])
	early.Papers = append(early.Papers, api.Paper{Id: 99, Known: 9, Kind: api.PaperVoid, Of: 5}, api.Paper{Id: 100, Known: 8, Kind: api.PaperVoid, Of: 10})
	noReport.Reports = append(noReport.Reports, api.Report{Id: 99, Known: 50, Kind: api.ReportVoid, Of: 1})
	many.Rates = make([]api.Rate, 101)
	for i := range many.Rates {
		many.Rates[i] = api.Rate{Id: i + 1, Finder: api.Frac{Num: 0, Den: 1}}
	}
	sold.Sales = append(sold.Sales, sold.Sales[0])
	sold.Sales[1].Id = 99
	poor.Postings = []api.Posting{{Id: 1, Kind: api.PostSale, Parcel: 60, Amount: 5, Reason: 1}, {Id: 2, Kind: api.PostPay, Party: 1, Parcel: 60, Amount: 6, Reason: 1}}
	return map[api.Errno]api.Books{
		api.ErrArg: noSeason, api.ErrTwice: twice, api.ErrTime: early, api.ErrNone: noReport,
		api.ErrLimit: many, api.ErrSold: sold, api.ErrPoor: poor,
	}
}

// alike reports whether two values are the same, but that nil slices are as good as empty ones.
func alike(a, b any) bool { return alikeValues(reflect.ValueOf(a), reflect.ValueOf(b)) }

func alikeValues(a, b reflect.Value) bool {
	switch a.Kind() {
	case reflect.Slice:
		if a.Len() != b.Len() {
			return false
		}
		for i := range a.Len() {
			if !alikeValues(a.Index(i), b.Index(i)) {
				return false
			}
		}
		return true
	case reflect.Struct:
		for i := range a.NumField() {
			if !alikeValues(a.Field(i), b.Field(i)) {
				return false
			}
		}
		return true
	}
	return a.Interface() == b.Interface()
}

// titles returns titles that are written as `PARTY NUM/DEN`, with a comma between two.
func titles(t testing.TB, s string) []api.Title {
	t.Helper()
	var out []api.Title
	for _, word := range strings.Split(s, ", ") {
		party, share, _ := strings.Cut(word, " ")
		num, den, _ := strings.Cut(share, "/")
		if word != "" {
			out = append(out, api.Title{Party: number(t, party), Share: api.Frac{Num: number(t, num), Den: number(t, den)}})
		}
	}
	return out
}

func number(t testing.TB, word string) int {
	t.Helper()
	n, err := strconv.Atoi(word)
	if err != nil {
		t.Fatalf("no number: %q", word)
	}
	return n
}

// dues returns dues for a parcel: parties, each with its amount behind it.
func dues(parcel int, numbers ...int) []api.Due {
	var out []api.Due
	for i := 0; i < len(numbers); i += 2 {
		out = append(out, api.Due{Party: numbers[i], Parcel: parcel, Amount: numbers[i+1]})
	}
	return out
}

// modelTell enters records into books, one after the other, in the one order.
func modelTell(c api.Season, l []api.Record) []api.Books {
	l = slices.Clone(l)
	slices.SortStableFunc(l, func(a, b api.Record) int {
		if a.Hour != b.Hour {
			return a.Hour - b.Hour
		}
		return 1000*(a.Station-b.Station) + a.Number - b.Number
	})
	out := []api.Books{{Season: c}}
	for _, x := range l {
		b := out[len(out)-1]
		if more, e := inquiry.Enter(b, x); e == api.OK {
			b = more
		}
		out = append(out, b)
	}
	return out
}

// modelAssignments returns all assignments of a small board.
func modelAssignments(b api.Board) [][]int {
	var out [][]int
	var on func(l []int)
	on = func(l []int) {
		i := len(l)
		if i == len(b.Finds) {
			out = append(out, slices.Clone(l))
			return
		}
		if len(b.Fits[i]) == 0 {
			on(append(l, -1))
		}
		for _, slot := range b.Fits[i] {
			has := 0
			for _, other := range l {
				if other == slot {
					has++
				}
			}
			if has < b.Slots[slot].Pieces {
				on(append(l, slot))
			}
		}
	}
	on(nil)
	return out
}

// modelParcel returns a parcel, and whether there is one.
func modelParcel(b api.Books, known, parcel int) (api.Parcel, bool) {
	p, e := find.ParcelOf(b.Reports, known, parcel)
	return p, e == api.OK
}

// modelDeadline returns the deadline of a slot of a board.
func modelDeadline(b api.Books, known int, board api.Board, slot int) int {
	least := -1
	for i, f := range board.Finds {
		p, _ := modelParcel(b, known, f)
		if slices.Contains(board.Fits[i], slot) && (least < 0 || p.Hour+8784 < least) {
			least = p.Hour + 8784
		}
	}
	return least
}

// modelTitles returns the titles of a slot of a board.
func modelTitles(b api.Books, known int, board api.Board, slot, hour int) ([]api.Title, api.Errno) {
	x := board.Slots[slot]
	paper, _ := cargo.PaperOf(b.Papers, known, x.Loss, x.Pack)
	return claim.Titles(b.Deeds, x.Loss, x.Pack, paper.Owner, known, hour, modelDeadline(b, known, board, slot))
}

// modelHad returns what can be had of a parcel at an hour, and whether there is an assignment.
func modelHad(b api.Books, known, parcel, hour int) ([][]api.Title, bool, api.Errno) {
	origins, e := find.Origins(b.Reports, known, parcel)
	if e != api.OK {
		return nil, false, e
	}
	board, e := match.Build(b.Season, b.Winds, b.Papers, b.Reports, known)
	if e != api.OK {
		return nil, false, e
	}
	all := modelAssignments(board)
	var out [][]api.Title
	for _, o := range origins {
		i := slices.Index(board.Finds, o)
		for _, slot := range board.Fits[i] {
			l, e := modelTitles(b, known, board, slot, hour)
			if e != api.OK {
				return nil, false, e
			}
			if slices.ContainsFunc(all, func(a []int) bool { return a[i] == slot }) {
				out = append(out, l)
			}
		}
		if len(board.Fits[i]) == 0 {
			p, _ := modelParcel(b, known, o)
			var l []api.Title
			if p.Hour+8784 < hour {
				l = []api.Title{{Party: 0, Share: api.Frac{Num: 1, Den: 1}}}
			}
			out = append(out, l)
		}
	}
	if len(all) == 0 {
		return nil, false, api.OK
	}
	return out, true, api.OK
}

// modelShare returns the share of a party in a list of titles.
func modelShare(l []api.Title, party int) api.Frac {
	for _, x := range l {
		if x.Party == party {
			return x.Share
		}
	}
	return api.Frac{Num: 0, Den: 1}
}

// modelSure returns what is sure, and what is perhaps had, of a parcel at an hour.
func modelSure(b api.Books, known, parcel, hour int) (sure, perhaps []api.Title, e api.Errno) {
	had, is, e := modelHad(b, known, parcel, hour)
	if e != api.OK || !is {
		return nil, nil, e
	}
	var parts []api.Frac
	for party := range 41 {
		least, greatest := modelShare(had[0], party), modelShare(had[0], party)
		for _, l := range had {
			share := modelShare(l, party)
			if claim.Compare(share, least) < 0 {
				least = share
			}
			if claim.Compare(share, greatest) > 0 {
				greatest = share
			}
		}
		if least.Num > 0 {
			sure = append(sure, api.Title{Party: party, Share: least})
			parts = append(parts, least)
		}
		if greatest.Num > 0 {
			perhaps = append(perhaps, api.Title{Party: party, Share: greatest})
		}
	}
	if _, e := claim.Sum(parts); e != api.OK {
		sure = nil
	}
	return sure, perhaps, api.OK
}

// modelDues returns the dues for a parcel at an hour.
func modelDues(b api.Books, known, parcel, hour int) ([]api.Due, api.Errno) {
	p, is := modelParcel(b, known, parcel)
	if !is {
		return nil, api.ErrParcel
	}
	origins, _ := find.Origins(b.Reports, known, parcel)
	first := 1000001
	var finders []int
	for _, o := range origins {
		q, _ := modelParcel(b, known, o)
		first = min(first, q.Hour)
		finders = append(finders, q.Finder)
	}
	a, e := award.AwardOf(b.Rates, b.Sales, parcel, p.Goods, first, known, finders)
	if e != api.OK {
		return nil, e
	}
	sure, _, e := modelSure(b, known, parcel, hour)
	if e != api.OK {
		return nil, e
	}
	pence := map[int]int{}
	for _, x := range a.Shares {
		pence[x.Party] += x.Pence
	}
	shares, _, e := award.Divide(a.Rest, sure)
	for _, x := range shares {
		pence[x.Party] += x.Pence
	}
	var out []api.Due
	for party := range 41 {
		if pence[party] > 0 {
			out = append(out, api.Due{Party: party, Parcel: parcel, Amount: pence[party]})
		}
	}
	return out, e
}

// modelCauses returns the causes by all books that records lead to, one after the other.
func modelCauses(c api.Season, l []api.Record, known, hour int) []api.Cause {
	l = slices.DeleteFunc(slices.Clone(l), func(x api.Record) bool { return x.Hour > known })
	steps := modelTell(c, l)
	ordered, _ := post.Order(5, l)
	parcels := map[int]bool{}
	for _, s := range steps[len(steps)-1].Sales {
		parcels[s.Parcel] = s.Of == 0
	}
	var out []api.Cause
	for _, parcel := range slices.Sorted(maps.Keys(parcels)) {
		var cause api.Cause
		for i, x := range ordered {
			before, _ := modelDues(steps[i], known, parcel, hour)
			after, _ := modelDues(steps[i+1], known, parcel, hour)
			if !slices.Equal(before, after) {
				cause = api.Cause{Parcel: parcel, Reason: 5*x.Number + x.Station, Known: x.Hour}
			}
		}
		if cause.Reason > 0 {
			out = append(out, cause)
		}
	}
	return out
}

// The random seasons: two losses near each other, or one on which winds depend.
var someSources = []string{
	"sea 2 1\nheights 0 0\ntide 0 0\nloss 1 0 1 1 1 0 0\nloss 2 1 1 1 1 0 3\nfloat wool high\n",
	"sea 5 2\nheights 4 4 9 4 4\ntide 1 2\ntide 0 5\ntide -1 2\ntide 0 0\nloss 1 1 1 2 2 0 0\nloss 3 3 4 1 2 0 2\nfloat cork high\n",
}

// teller makes random records of three stations.
type teller struct {
	*rand.Rand
	losses  []int
	hour    int
	numbers [3]int
	made    []int // the Ids of the records
	parcels []int // that reports may have made
	records []api.Record
}

func (r *teller) some(words ...string) string { return words[r.IntN(len(words))] }

func (r *teller) id() int {
	if len(r.made) == 0 {
		return 5
	}
	return r.made[r.IntN(len(r.made))]
}

func (r *teller) parcel() int {
	if len(r.parcels) == 0 {
		return 10
	}
	return r.parcels[r.IntN(len(r.parcels))]
}

func (r *teller) goods() string { return r.some("oil", "oil", "oil", "wool") }

func (r *teller) mark() string { return r.some("ab", "a?", "??", "?b", "c?") }

func (r *teller) span(most int) string {
	low := 1 + r.IntN(most)
	return words(low, low+r.IntN(most))
}

func words(l ...int) string {
	var out []string
	for _, n := range l {
		out = append(out, strconv.Itoa(n))
	}
	return strings.Join(out, " ")
}

// pack returns a package as a text has it.
func (r *teller) pack() string { return words(r.losses[r.IntN(len(r.losses))], 1+r.IntN(4)) }

// party returns one of few parties, so that they meet.
func (r *teller) party() string { return words(1 + r.IntN(4)) }

// text returns the text of a record with an Id.
func (r *teller) text(id int) string {
	early := max(r.hour-r.IntN(3), 0)
	kind := r.IntN(22)
	if len(r.records) < 10 {
		// There is something to have before there are finds.
		kind = []int{0, 0, 12}[r.IntN(3)]
	}
	switch kind {
	case 0, 1, 2, 3:
		return "paper package " + r.pack() + " 0 " + r.mark() + " " + r.goods() + " " + r.span(60) + " " + words(1+r.IntN(3)) + " " + r.party()
	case 4:
		return "paper total " + r.some(r.pack(), words(r.losses[0], 0)) + " " + words(r.IntN(4)) + " " + r.span(90)
	case 5:
		return "wind wind " + words(0, r.IntN(30), r.IntN(3)-2, r.IntN(3), -r.IntN(2), 1)
	case 6, 7, 8:
		r.parcels = append(r.parcels, 10*id)
		return "report " + words(early) + " found " + words(r.IntN(2)) + " " + r.mark() + " " + r.goods() + " " + r.span(20) + " " + r.party()
	case 9:
		r.parcels = append(r.parcels, 10*id, 10*id+1)
		return "report " + words(r.hour) + " divided " + words(r.parcel(), 2)
	case 10:
		r.parcels = append(r.parcels, 10*id)
		return "report " + words(r.hour) + " joined " + words(r.parcel(), r.parcel())
	case 11:
		return "report " + words(r.hour) + r.some(" weighed "+words(r.parcel())+" "+r.span(20), " same "+words(r.parcel(), r.parcel()), " hidden "+words(r.parcel(), 3))
	case 12, 13, 14:
		return "deed " + words(early) + r.some(" paid ", " sold ") + r.pack() + " " + r.party() + " " + r.party() + " " + words(1, 1+r.IntN(4))
	case 15:
		return "deed " + words(early) + r.some(" claim "+r.pack()+" "+r.party(), " left "+r.pack()+" "+r.party()+" "+words(r.IntN(3)), " withdraw "+words(r.id()))
	case 16:
		return "rate rate " + words(r.IntN(r.hour+1)) + " " + r.some("all", "oil", "wool") + " " + words(1, 1+r.IntN(5), r.IntN(9), r.IntN(5))
	case 17, 18, 19:
		return "sale " + words(early) + " sale " + words(r.parcel(), 1+r.IntN(300), r.IntN(5), 3, r.IntN(early+1))
	case 20:
		return r.some("posting sale "+words(r.parcel(), 1+r.IntN(99), r.id(), early), "posting pay "+words(1+r.IntN(9), r.parcel(), 1+r.IntN(9), r.id(), early), "nonsense", "paper")
	}
	return r.some("paper", "report", "deed", "rate", "sale", "wind") + " void " + words(r.id())
}

// tell adds a record.
func (r *teller) tell() {
	if r.IntN(30) == 0 {
		r.hour += 9000
	}
	r.hour += r.IntN(3)
	s := r.IntN(3)
	r.numbers[s]++
	id := 5*r.numbers[s] + s
	x := api.Record{Station: s, Number: r.numbers[s], Hour: r.hour, Text: r.text(id)}
	r.made = append(r.made, id)
	r.records = append(r.records, x)
}

// book returns the records as a book.
func (r *teller) book() []api.Record { return byRefs(r.records) }

// isSmall reports whether the model can go through all assignments.
func isSmall(b api.Books, known int) bool {
	board, e := inquiry.Board(b, known)
	n := 1
	for _, fits := range board.Fits {
		n *= max(len(fits), 1)
	}
	return e == api.OK && n <= 20000
}

// randomTale returns a season, and a book of random records of three stations.
func randomTale(t testing.TB, seed uint64, count int) (api.Season, *teller) {
	r := &teller{Rand: rand.New(rand.NewPCG(9, seed))}
	c := seasonOf(t, someSources[r.IntN(2)])
	for _, x := range c.Losses {
		r.losses = append(r.losses, x.Id)
	}
	for range count {
		r.tell()
	}
	return c, r
}
