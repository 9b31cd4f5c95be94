package post

import (
	"slices"

	"lagan/api"
)

// Station is a station with its book on a disk.
type Station struct {
	disk       *Disk
	station, n int
	book       shelf
	end        int  // the sector behind the last letter on the disk
	stopped    bool // the disk was down: what is on it is not known until the station is opened anew
}

// Open returns the station whose book a disk contains; on an empty disk it begins one.
func Open(d *Disk, station, n int) (*Station, api.Errno) {
	if !areStations(n) || !within(station, 0, n-1) {
		return nil, api.ErrArg
	}
	if e := d.refusal(); e != api.OK {
		return nil, e
	}
	s := &Station{disk: d, station: station, n: n, end: firstLetter}
	owner := ownerOf(station, n)
	isNew := d.sectors[0] == sector{}
	if !isNew && d.sectors[0] != owner || !s.load() {
		return nil, api.ErrSpoilt
	}
	if isNew {
		if e := d.write(0, owner); e != api.OK {
			return nil, e
		}
	}
	return s, api.OK
}

// load reads the book, and reports whether the disk contains nothing else.
func (s *Station) load() bool {
	for text, end := range s.disk.letters() {
		l, is := readMessage(s.n, text).(letter)
		if !is || !s.add(l) {
			return false
		}
		s.end = end
	}
	return true
}

// add adds the records of a letter to the book, and reports whether all of them were the next ones.
func (s *Station) add(l letter) bool {
	for _, x := range l {
		if added, _ := s.book.take(x); !added {
			return false
		}
	}
	return true
}

// keep makes records durable, and adds them to the book.
func (s *Station) keep(l letter) api.Errno {
	if s.stopped || s.disk.Down() {
		s.stopped = true
		return api.ErrDown
	}
	sectors := sectorsOf(l.text())
	if s.end+len(sectors) > len(s.disk.sectors) {
		return api.ErrFull
	}
	if e := s.disk.writeLetter(s.end, sectors); e != api.OK {
		s.stopped = true
		return e
	}
	s.end += len(sectors)
	s.add(l)
	return api.OK
}

// Add writes a record, and returns its Number.
func (s *Station) Add(text string, hour int) (int, api.Errno) {
	if s == nil {
		return 0, api.ErrNil
	}
	if !isText(text) || !isHour(hour) {
		return 0, api.ErrArg
	}
	own := s.book[s.station]
	if len(own) > 0 && hour < own[len(own)-1].Hour {
		return 0, api.ErrTime
	}
	if len(own) == api.MaxRecords {
		return 0, api.ErrLimit
	}
	x := api.Record{Station: s.station, Number: len(own) + 1, Hour: hour, Text: text}
	if e := s.keep(letter{x}); e != api.OK {
		return 0, e
	}
	return x.Number, api.OK
}

// Records returns the book that the station has.
func (s *Station) Records() []api.Record {
	if s == nil {
		return nil
	}
	return s.book.records()
}

// Own returns the station's own records.
func (s *Station) Own() []api.Record {
	if s == nil {
		return nil
	}
	return slices.Clone(s.book[s.station])
}

// Have returns the stock of the station's book.
func (s *Station) Have() api.Stock {
	if s == nil {
		return api.Stock{}
	}
	return s.book.stock()
}

// Greeting returns the greeting with the own stock.
func (s *Station) Greeting() string {
	if s == nil {
		return ""
	}
	have := s.Have().Have
	return greeting(have[:s.n]).text()
}

// Hear processes a message, and returns the answer; an empty string if there is none.
func (s *Station) Hear(m string) (string, api.Errno) {
	if s == nil {
		return "", api.ErrNil
	}
	switch heard := readMessage(s.n, m).(type) {
	case greeting:
		return s.answer(heard), api.OK
	case letter:
		return s.takeIn(heard)
	default:
		return "", api.ErrForm
	}
}

// answer returns the answer to a greeting: what who greets lacks, or else the own greeting if the station lacks something.
func (s *Station) answer(g greeting) string {
	theirs, ours := g.stock(), s.Have()
	if l := lacking(s.book.records(), theirs); len(l) > 0 {
		return letter(l[:min(len(l), api.MaxLetter)]).text()
	}
	if theirs != ours {
		return s.Greeting()
	}
	return ""
}

// takeIn adds the records of a letter that are the next ones, and answers by the own greeting if there are any.
func (s *Station) takeIn(l letter) (string, api.Errno) {
	book := s.book // a trial: it is for keep to add them
	var fresh letter
	for _, x := range l {
		added, e := book.take(x)
		if e != api.OK || x.Station == s.station && x.Number > len(s.book[s.station]) {
			return "", api.ErrState
		}
		if added {
			fresh = append(fresh, x)
		}
	}
	if len(fresh) == 0 {
		return "", api.OK
	}
	if e := s.keep(fresh); e != api.OK {
		return "", e
	}
	return s.Greeting(), api.OK
}
