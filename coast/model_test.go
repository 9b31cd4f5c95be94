package coast_test

import (
	"cmp"
	"slices"
	"strconv"
	"strings"
	"testing"

	"lagan/api"
	"lagan/inquiry"
	"lagan/post"
	"lagan/purse"
)

// keeper is what a coast is, and its model.
type keeper interface {
	Pass(hour int) api.Errno
	Tell(station int, text string) (int, api.Errno)
	Settle() (int, api.Errno)
	Send(from, to int) api.Errno
	Carry(from, to, index int) api.Errno
	Lose(from, to, index int) api.Errno
	Repeat(from, to, index int) api.Errno
	Stop(station, calls int) api.Errno
	Crash(station int, keep []int) api.Errno
	Records(station int) []api.Record
	Books(station int) api.Books
	Ask(station int, question string) (string, api.Errno)
	Audit(station int, line string) api.Errno
	Due(station, parcel int) ([]api.Due, api.Errno)
	Held(station int) (int, api.Errno)
	Has(station, party, parcel int) (int, api.Errno)
}

// model says what chapter 10 says, as directly as possible, and slowly.
type model struct {
	season   api.Season
	n, now   int
	disks    []*post.Disk
	stations []*post.Station
	lines    map[[2]int][]string
	books    map[string]api.Books // what records were entered as before
}

func newModel(t testing.TB, n, sectors int, src string) *model {
	t.Helper()
	season, fault := inquiry.ParseSeason(src)
	m := &model{season: season, n: n, lines: map[[2]int][]string{}, books: map[string]api.Books{}}
	does(t, "ParseSeason", fault.Err, api.OK)
	for s := range n {
		d, _ := post.NewDisk(sectors)
		x, _ := post.Open(d, s, n)
		m.disks, m.stations = append(m.disks, d), append(m.stations, x)
	}
	return m
}

func (m *model) is(station int) bool { return 0 <= station && station < m.n }

func (m *model) Pass(hour int) api.Errno {
	if hour < 0 || hour > 1000000 {
		return api.ErrArg
	}
	if hour < m.now {
		return api.ErrTime
	}
	m.now = hour
	return api.OK
}

// ordered returns records in the one order.
func ordered(l []api.Record) []api.Record {
	return slices.SortedFunc(slices.Values(l), func(a, b api.Record) int {
		return cmp.Or(a.Hour-b.Hour, a.Station-b.Station, a.Number-b.Number)
	})
}

// entered returns the books of records, which are entered one after the other.
func (m *model) entered(l []api.Record) api.Books {
	l = ordered(l)
	var key strings.Builder
	b := api.Books{Season: m.season}
	for _, x := range l {
		key.WriteString(strconv.Itoa(x.Station) + " " + strconv.Itoa(x.Number) + " " + x.Text + "\n")
		next, is := m.books[key.String()]
		if !is {
			next = b
			if more, e := inquiry.Enter(b, x); e == api.OK {
				next = more
			}
			m.books[key.String()] = next
		}
		b = next
	}
	return b
}

func (m *model) Tell(station int, text string) (int, api.Errno) {
	if !m.is(station) {
		return 0, api.ErrArg
	}
	number := m.stations[station].Have().Have[station] + 1
	if number > 400 {
		return 0, api.ErrLimit
	}
	x := api.Record{Station: station, Number: number, Hour: m.now, Text: text}
	_, e := inquiry.Enter(api.Books{Season: m.season}, x)
	if e == api.ErrArg || e == api.ErrWord {
		return 0, e
	}
	if len(text) > 7 && text[:8] == "posting " {
		return 0, api.ErrState
	}
	all := ordered(append(m.stations[station].Records(), x))
	before := m.entered(all[:slices.Index(all, x)])
	if _, e := inquiry.Enter(before, x); e != api.OK {
		return 0, e
	}
	return m.stations[station].Add(text, m.now)
}

// words returns a word, and numbers behind it.
func words(word string, l ...int) string {
	for _, n := range l {
		word += " " + strconv.Itoa(n)
	}
	return word
}

// sales returns the records of the sales that did not come in.
func (m *model) sales() []string {
	var out []string
	b := m.entered(m.stations[0].Records())
	for _, s := range slices.SortedFunc(slices.Values(b.Sales), func(a, b api.Sale) int { return a.Parcel - b.Parcel }) {
		isVoid := slices.ContainsFunc(b.Sales, func(x api.Sale) bool { return x.Of == s.Id })
		isIn := slices.ContainsFunc(b.Postings, func(x api.Posting) bool { return x.Kind == api.PostSale && x.Parcel == s.Parcel })
		if s.Of == 0 && !isVoid && !isIn {
			out = append(out, words("posting sale", s.Parcel, s.Price, s.Id, s.Known))
		}
	}
	return out
}

// settling returns the records that settle what is due.
func (m *model) settling() ([]string, api.Errno) {
	out := m.sales()
	l := m.stations[0].Records()
	own := m.stations[0].Own()
	for i, text := range out {
		l = slices.Insert(l, len(own)+i, api.Record{Station: 0, Number: len(own) + i + 1, Hour: m.now, Text: text})
	}
	b := m.entered(l)
	dues, e := inquiry.Dues(b, m.now, m.now)
	if e != api.OK {
		return nil, e
	}
	causes, e := inquiry.Causes(m.season, m.n, l, m.now, m.now)
	if e != api.OK {
		return nil, e
	}
	more, e := purse.Settle(b.Postings, dues, causes, m.now)
	for _, p := range more {
		word := map[uint8]string{api.PostPay: "posting pay", api.PostBack: "posting back"}[p.Kind]
		out = append(out, words(word, p.Party, p.Parcel, p.Amount, p.Reason, p.Known))
	}
	return out, e
}

func (m *model) Settle() (int, api.Errno) {
	if m.disks[0].Down() {
		return 0, api.ErrDown
	}
	texts, e := m.settling()
	if e != api.OK {
		return 0, e
	}
	for _, text := range texts {
		if _, e := m.stations[0].Add(text, m.now); e != api.OK {
			return 0, e
		}
	}
	return len(texts), api.OK
}

func (m *model) Send(from, to int) api.Errno {
	switch {
	case !m.is(from) || !m.is(to) || from == to:
		return api.ErrArg
	case m.disks[from].Down():
		return api.ErrDown
	case len(m.lines[[2]int{from, to}]) == 100:
		return api.ErrFull
	}
	m.lines[[2]int{from, to}] = append(m.lines[[2]int{from, to}], m.stations[from].Greeting())
	return api.OK
}

// message returns a message, and whether there is one.
func (m *model) message(from, to, index int) (string, bool) {
	l := m.lines[[2]int{from, to}]
	if index < 0 || index >= len(l) {
		return "", false
	}
	return l[index], true
}

func (m *model) Carry(from, to, index int) api.Errno {
	text, is := m.message(from, to, index)
	if !is {
		return api.ErrNone
	}
	if m.disks[to].Down() {
		return api.ErrDown
	}
	m.Lose(from, to, index)
	answer, e := m.stations[to].Hear(text)
	if back := [2]int{to, from}; answer != "" && len(m.lines[back]) < 100 {
		m.lines[back] = append(m.lines[back], answer)
	}
	return e
}

func (m *model) Lose(from, to, index int) api.Errno {
	if _, is := m.message(from, to, index); !is {
		return api.ErrNone
	}
	var left []string
	for i, text := range m.lines[[2]int{from, to}] {
		if i != index {
			left = append(left, text)
		}
	}
	m.lines[[2]int{from, to}] = left
	return api.OK
}

func (m *model) Repeat(from, to, index int) api.Errno {
	text, is := m.message(from, to, index)
	if !is {
		return api.ErrNone
	}
	if len(m.lines[[2]int{from, to}]) == 100 {
		return api.ErrFull
	}
	m.lines[[2]int{from, to}] = append(m.lines[[2]int{from, to}], text)
	return api.OK
}

func (m *model) Stop(station, calls int) api.Errno {
	if !m.is(station) {
		return api.ErrArg
	}
	return m.disks[station].Stop(calls)
}

func (m *model) Crash(station int, keep []int) api.Errno {
	if !m.is(station) {
		return api.ErrArg
	}
	m.disks[station].Crash(keep)
	s, e := post.Open(m.disks[station], station, m.n)
	m.stations[station] = s
	return e
}

func (m *model) Records(station int) []api.Record {
	if !m.is(station) {
		return nil
	}
	return m.stations[station].Records()
}

func (m *model) Books(station int) api.Books {
	if !m.is(station) {
		return api.Books{}
	}
	return m.entered(m.stations[station].Records())
}

func (m *model) Ask(station int, question string) (string, api.Errno) {
	if !m.is(station) {
		return "", api.ErrArg
	}
	q, e := inquiry.ParseQuestion(question)
	if e != api.OK {
		return "", e
	}
	a, e := inquiry.Ask(m.Books(station), q)
	if e != api.OK {
		return "", e
	}
	s, e := inquiry.WriteAnswer(a)
	return question + " = " + s, e
}

func (m *model) Audit(station int, line string) api.Errno {
	if !m.is(station) {
		return api.ErrArg
	}
	_, e := inquiry.Audit(m.Books(station), []string{line})
	return e
}

func (m *model) Due(station, parcel int) ([]api.Due, api.Errno) {
	if !m.is(station) {
		return nil, api.ErrArg
	}
	return inquiry.DuesOf(m.Books(station), m.now, parcel, m.now)
}

func (m *model) Held(station int) (int, api.Errno) {
	if !m.is(station) {
		return 0, api.ErrArg
	}
	held := 0
	for _, p := range m.Books(station).Postings {
		held += map[uint8]int{api.PostSale: 1, api.PostPay: -1, api.PostBack: 1}[p.Kind] * p.Amount
	}
	return held, api.OK
}

func (m *model) Has(station, party, parcel int) (int, api.Errno) {
	if !m.is(station) || party < 0 || party > 40 || parcel < 10 || parcel > 10000007 {
		return 0, api.ErrArg
	}
	has := 0
	for _, p := range m.Books(station).Postings {
		if p.Party == party && p.Parcel == parcel {
			has += map[uint8]int{api.PostPay: 1, api.PostBack: -1}[p.Kind] * p.Amount
		}
	}
	return has, api.OK
}
