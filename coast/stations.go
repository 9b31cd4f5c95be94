package coast

import (
	"slices"
	"strings"

	"lagan/api"
	"lagan/inquiry"
	"lagan/post"
)

// postingStart is how the texts of postings begin.
const postingStart = "posting "

// station is a station with its disk.
type station struct {
	*post.Station // nil if the disk could not be opened: then the station does nothing
	disk          *post.Disk
}

// newStation returns one of n stations, with an empty disk.
func newStation(sectors, number, n int) (*station, api.Errno) {
	disk, e := post.NewDisk(sectors)
	if e != api.OK {
		return nil, e
	}
	s := &station{disk: disk}
	return s, s.open(number, n)
}

// open opens a station anew from its disk.
func (s *station) open(number, n int) api.Errno {
	opened, e := post.Open(s.disk, number, n)
	s.Station = opened
	return e
}

func (s *station) isDown() bool { return s.Station == nil || s.disk.Down() }

// write makes a station write a record, and returns its Number.
func (s *station) write(text string, hour int) (int, api.Errno) {
	if s.Station == nil {
		return 0, api.ErrDown
	}
	return s.Add(text, hour)
}

// Tell lets a station write a record at this hour, and returns its Number.
func (c *Coast) Tell(station int, text string) (int, api.Errno) {
	s, e := c.at(station)
	if e != api.OK {
		return 0, e
	}
	written := len(s.Own())
	if written >= api.MaxRecords {
		return 0, api.ErrLimit
	}
	x := api.Record{Station: station, Number: written + 1, Hour: c.now, Text: text}
	if e := c.refusal(x, s.Records()); e != api.OK {
		return 0, e
	}
	return s.write(text, c.now)
}

// refusal returns the error of a record that a station with some records is told.
func (c *Coast) refusal(x api.Record, l []api.Record) api.Errno {
	_, e := inquiry.Enter(api.Books{Season: c.season}, x)
	if e == api.ErrArg || e == api.ErrWord {
		return e
	}
	if strings.HasPrefix(x.Text, postingStart) {
		return api.ErrState
	}
	return c.errorOf(x, l)
}

// errorOf returns the error with which a record is entered among others, behind the others of its station.
func (c *Coast) errorOf(x api.Record, l []api.Record) api.Errno {
	place := len(l)
	if i := slices.IndexFunc(l, func(y api.Record) bool { return y.Station > x.Station }); i >= 0 {
		place = i
	}
	all := slices.Insert(slices.Clone(l), place, x)
	_, errors, e := c.told(all)
	if e != api.OK {
		return e
	}
	// What has books has an order.
	ordered, _ := post.Order(len(c.stations), all)
	return errors[slices.Index(ordered, x)]
}

// Stop lets the power of a station's disk fail after a number of further calls.
func (c *Coast) Stop(station, calls int) api.Errno {
	s, e := c.at(station)
	if e != api.OK {
		return e
	}
	return s.disk.Stop(calls)
}

// Crash crashes the disk of a station, and opens it anew.
func (c *Coast) Crash(station int, keep []int) api.Errno {
	s, e := c.at(station)
	if e != api.OK {
		return e
	}
	s.disk.Crash(keep)
	return s.open(station, len(c.stations))
}

// Records returns the records that a station has.
func (c *Coast) Records(station int) []api.Record {
	s, e := c.at(station)
	if e != api.OK {
		return nil
	}
	return s.Records()
}

// Books returns the books of a station.
func (c *Coast) Books(station int) api.Books {
	b, _ := c.booksOf(station)
	return b
}
