package post

import (
	"strconv"
	"strings"

	"lagan/api"
)

// WriteRecord returns the line of a record, without a line feed.
func WriteRecord(n int, x api.Record) (string, api.Errno) {
	if e := CheckRecord(n, x); e != api.OK {
		return "", e
	}
	return lineOf(x), api.OK
}

func lineOf(x api.Record) string {
	words := []string{strconv.Itoa(x.Station), strconv.Itoa(x.Number), strconv.Itoa(x.Hour), x.Text}
	return strings.Join(words, " ")
}

// ReadRecord returns the well-formed record with a line; ErrForm if there is none.
func ReadRecord(n int, line string) (api.Record, api.Errno) {
	if !areStations(n) {
		return api.Record{}, api.ErrArg
	}
	var x api.Record
	is := attempt(func() {
		x = readRecord(n, cutter(line+"\n"))
		require(lineOf(x) == line)
	})
	if !is {
		return api.Record{}, api.ErrForm
	}
	return x, api.OK
}

// readRecord reads the line of a well-formed record. (Numbers may be written otherwise than they should be.)
func readRecord(n int, cut func(sign string) string) api.Record {
	var x api.Record
	x.Station = numberOf(cut(" "))
	x.Number = numberOf(cut(" "))
	x.Hour = numberOf(cut(" "))
	x.Text = cut("\n")
	require(CheckRecord(n, x) == api.OK)
	return x
}

// cutter returns a function that cuts off the next word of a text, and the sign behind it. It panics if there is none.
func cutter(text string) func(sign string) string {
	return func(sign string) string {
		word, rest, is := strings.Cut(text, sign)
		require(is)
		text = rest
		return word
	}
}

func numberOf(word string) int {
	n, err := strconv.Atoi(word)
	require(err == nil)
	return n
}

// require gives up what has no form.
func require(is bool) {
	if !is {
		panic(api.ErrForm)
	}
}

// attempt does something, and reports whether it was not given up.
func attempt(do func()) (is bool) {
	defer func() { is = recover() == nil }()
	do()
	return true
}
