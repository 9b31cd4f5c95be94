package inquiry

import (
	"slices"
	"strings"

	"lagan/api"
	"lagan/drift"
	"lagan/match"
)

// The words that the lines of a season begin with which those of a sea do not have.
const (
	lossWord  = "loss"
	floatWord = "float"
)

// The words of floats.
const (
	deepWord = "deep"
	highWord = "high"
)

// comment is a line that says nothing.
const comment = "#"

const (
	lossNumbers = 7
	maxNumeral  = 9999999 // the greatest number of 7 digits, as lines of losses have them
)

// isOwn reports whether a line of a season is none of a sea.
func isOwn(line string) bool {
	word, _ := cutter(line)()
	return word == lossWord || word == floatWord
}

// ParseSeason reads the source of a season.
func ParseSeason(src string) (api.Season, api.Fault) {
	if len(src) > api.MaxSource {
		return api.Season{}, api.Fault{Err: api.ErrLimit}
	}
	lines := strings.Split(src, "\n")
	sea, fault := drift.ParseSea(seaSource(lines))
	if fault.Err != api.OK {
		return api.Season{}, fault
	}
	c := api.Season{Sea: sea}
	for i, line := range lines {
		if isOwn(line) && !attempt(func() { readOwn(&c, line) }) {
			return api.Season{}, api.Fault{Err: api.ErrForm, Line: i + 1}
		}
	}
	if e := match.CheckSeason(c); e != api.OK {
		return api.Season{}, api.Fault{Err: e}
	}
	return c, api.Fault{}
}

// seaSource returns the source of the sea of a season: its other lines say nothing, so that all keep their numbers.
func seaSource(lines []string) string {
	lines = slices.Clone(lines)
	for i, line := range lines {
		if isOwn(line) {
			lines[i] = comment
		}
	}
	return strings.Join(lines, "\n")
}

// readOwn adds to a season what a line says that is none of a sea. It gives up a line that does not have its form.
func readOwn(c *api.Season, line string) {
	cut := cutter(line)
	if next(cut) == lossWord {
		c.Losses = append(c.Losses, readLoss(cut))
	} else {
		c.Floats = append(c.Floats, readFloat(cut))
	}
}

func readLoss(cut func() (string, bool)) api.Loss {
	n := numbers(cut)
	require(len(n) == lossNumbers && within(slices.Min(n), 0, maxNumeral) && within(slices.Max(n), 0, maxNumeral))
	return api.Loss{
		Id:    n[0],
		Cells: api.Range{Low: n[1], High: n[2]},
		Bands: api.Range{Low: n[3], High: n[4]},
		Hours: api.Range{Low: n[5], High: n[6]},
	}
}

func readFloat(cut func() (string, bool)) api.Float {
	x := api.Float{Goods: next(cut)}
	require(x.Goods != "")
	switch next(cut) {
	case deepWord:
		x.Float = api.FloatDeep
	case highWord:
		x.Float = api.FloatHigh
	default:
		require(false)
	}
	_, more := cut()
	require(!more)
	return x
}

// PrintSeason returns the source of a season.
func PrintSeason(c api.Season) string {
	if match.CheckSeason(c) != api.OK {
		return ""
	}
	src := drift.PrintSea(c.Sea)
	for _, x := range c.Losses {
		src += lineOf([]string{lossWord}, x.Id, x.Cells.Low, x.Cells.High, x.Bands.Low, x.Bands.High, x.Hours.Low, x.Hours.High) + "\n"
	}
	for _, x := range c.Floats {
		word := deepWord
		if x.Float == api.FloatHigh {
			word = highWord
		}
		src += lineOf([]string{floatWord, x.Goods, word}) + "\n"
	}
	return src
}
