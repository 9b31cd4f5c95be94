package post

import (
	"slices"

	"lagan/api"
)

// shelf is a book, with the records of each station by themselves: that with the Number k is at k - 1.
type shelf [api.MaxStations][]api.Record

// take adds a well-formed record if it is the next one of its Station, and reports whether it was. One that is there
// already changes nothing, and neither does one that others before it are missing for. ErrState if it contradicts the book.
func (s *shelf) take(x api.Record) (added bool, e api.Errno) {
	own := s[x.Station]
	switch has := len(own); {
	case x.Number <= has && own[x.Number-1] != x:
		return false, api.ErrState
	case x.Number != has+1:
		return false, api.OK
	case has > 0 && x.Hour < own[has-1].Hour:
		return false, api.ErrState
	}
	s[x.Station] = append(own, x)
	return true, api.OK
}

// records returns the records, by their Refs.
func (s *shelf) records() []api.Record { return slices.Concat(s[:]...) }

// stock returns how many records of each station there are.
func (s *shelf) stock() api.Stock {
	var out api.Stock
	for i, own := range s {
		out.Have[i] = len(own)
	}
	return out
}
