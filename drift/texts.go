package drift

import (
	"strconv"
	"strings"

	"lagan/api"
)

// The words of a record's line that say what it is.
const (
	windWord = "wind"
	voidWord = "void"
)

// How many words the lines of records have.
const (
	windWords = 9
	voidWords = 4
)

// Write returns the line of a record.
func Write(x api.Wind) (string, api.Errno) {
	if e := CheckWind(x); e != api.OK {
		return "", e
	}
	begin := lineOf(strconv.Itoa(x.Id), x.Known) + " "
	if x.Of != 0 {
		return lineOf(begin+voidWord, x.Of), api.OK
	}
	return lineOf(begin+windWord, x.From, x.Until, x.Along.Low, x.Along.High, x.Ashore.Low, x.Ashore.High), api.OK
}

// Read returns the record with a line; ErrForm if there is none.
func Read(line string) (api.Wind, api.Errno) {
	x := parse(strings.SplitN(line, " ", windWords+1))
	// Numbers can be written in several ways, of which Write knows the right one.
	if s, e := Write(x); e != api.OK || s != line {
		return api.Wind{}, api.ErrForm
	}
	return x, api.OK
}

// parse returns the record that words seem to be of, and a zero one if they are of none.
func parse(words []string) api.Wind {
	var n [windWords]int
	for i, word := range words {
		if i < windWords {
			// What is not a number leaves a 0 here, which Write writes otherwise.
			n[i], _ = strconv.Atoi(word)
		}
	}
	switch {
	case len(words) == windWords && words[2] == windWord:
		return api.Wind{Id: n[0], Known: n[1], From: n[3], Until: n[4],
			Along: api.Range{Low: n[5], High: n[6]}, Ashore: api.Range{Low: n[7], High: n[8]}}
	case len(words) == voidWords && words[2] == voidWord:
		return api.Wind{Id: n[0], Known: n[1], Of: n[3]}
	}
	return api.Wind{}
}
