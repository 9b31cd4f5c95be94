package drift

import (
	"strconv"
	"strings"

	"lagan/api"
)

// maxAlong is how far along the shore a tide goes at most.
const maxAlong = 3

// maxNumeral is the greatest number of 6 digits, as sources have them.
const maxNumeral = 999999

// The words that the lines of a source begin with.
const (
	seaWord     = "sea"
	heightsWord = "heights"
	tideWord    = "tide"
)

// CheckSea returns ErrArg for a sea that is not as the chapter says.
func CheckSea(s api.Sea) api.Errno {
	if !within(s.Cells, 1, api.MaxCells) || !within(s.Bands, 1, api.MaxBands) ||
		len(s.Heights) != s.Cells || !within(len(s.Tides), 1, api.MaxTides) {
		return api.ErrArg
	}
	for _, height := range s.Heights {
		if !within(height, 0, api.MaxHeight) {
			return api.ErrArg
		}
	}
	for _, tide := range s.Tides {
		if !within(tide.Along, -maxAlong, maxAlong) || !within(tide.Height, 0, api.MaxHeight) {
			return api.ErrArg
		}
	}
	return api.OK
}

func isPlace(s api.Sea, p api.Place) bool {
	return within(p.Cell, 0, s.Cells-1) && within(p.Band, 0, s.Bands)
}

// source is a source of a sea that is read line by line.
type source struct {
	sea  api.Sea
	due  string // the word that the next line has to begin with
	line int    // the number of the line that is read; 0 behind the last one
}

// ParseSea reads the source of a sea.
func ParseSea(src string) (sea api.Sea, fault api.Fault) {
	if len(src) > api.MaxSource {
		return api.Sea{}, api.Fault{Err: api.ErrLimit}
	}
	r := source{due: seaWord}
	defer func() {
		if recover() != nil {
			sea, fault = api.Sea{}, api.Fault{Err: api.ErrForm, Line: r.line}
		}
	}()
	r.read(src)
	if e := CheckSea(r.sea); e != api.OK {
		return api.Sea{}, api.Fault{Err: e}
	}
	return r.sea, api.Fault{}
}

// read reads all lines, and panics at the first one that does not have the form that is due.
func (r *source) read(src string) {
	readers := map[string]func(words []string){
		seaWord:     r.readSea,
		heightsWord: r.readHeights,
		tideWord:    r.readTide,
	}
	for i, line := range strings.Split(src, "\n") {
		if line == "" || line[0] == '#' {
			continue
		}
		r.line = i + 1
		words := strings.Split(line, " ")
		expect(words[0] == r.due)
		readers[r.due](words[1:])
	}
	r.line = 0
	expect(len(r.sea.Tides) > 0)
}

func (r *source) readSea(words []string) {
	expect(len(words) == 2)
	r.sea.Cells, r.sea.Bands = numeral(words[0], 0), numeral(words[1], 0)
	r.due = heightsWord
}

func (r *source) readHeights(words []string) {
	expect(len(words) == r.sea.Cells)
	for _, word := range words {
		r.sea.Heights = append(r.sea.Heights, numeral(word, 0))
	}
	r.due = tideWord
}

func (r *source) readTide(words []string) {
	expect(len(words) == 2)
	tide := api.Tide{Along: numeral(words[0], -maxNumeral), Height: numeral(words[1], 0)}
	r.sea.Tides = append(r.sea.Tides, tide)
}

// numeral returns the number that a word is.
func numeral(word string, low int) int {
	n, err := strconv.Atoi(word)
	expect(err == nil && strconv.Itoa(n) == word && within(n, low, maxNumeral))
	return n
}

// expect gives up a source that does not have its form.
func expect(is bool) {
	if !is {
		panic(api.ErrForm)
	}
}

// PrintSea returns the source of a sea.
func PrintSea(s api.Sea) string {
	if CheckSea(s) != api.OK {
		return ""
	}
	src := lineOf(seaWord, s.Cells, s.Bands) + "\n" + lineOf(heightsWord, s.Heights...) + "\n"
	for _, tide := range s.Tides {
		src += lineOf(tideWord, tide.Along, tide.Height) + "\n"
	}
	return src
}

// lineOf returns a line that begins with some words, behind which there are numbers.
func lineOf(words string, numbers ...int) string {
	for _, n := range numbers {
		words += " " + strconv.Itoa(n)
	}
	return words
}
