package cargo

import (
	"strconv"
	"strings"

	"lagan/api"
)

// kindWords are the words of the kinds of papers.
var kindWords = [4]string{"", "package", "total", "void"}

// How many words the lines of the kinds of papers have.
const (
	packageWords = 12
	totalWords   = 8
	voidWords    = 4
)

// Write returns the line of a paper.
func Write(x api.Paper) (string, api.Errno) {
	if CheckPaper(x) != api.OK {
		return "", api.ErrArg
	}
	words := append(numerals(x.Id, x.Known), kindWords[x.Kind])
	switch x.Kind {
	case api.PaperPackage:
		words = append(words, numerals(x.Loss, x.Pack, x.In)...)
		words = append(words, x.Mark, x.Goods)
		words = append(words, numerals(x.Weight.Low, x.Weight.High, x.Pieces, x.Owner)...)
	case api.PaperTotal:
		words = append(words, numerals(x.Loss, x.Pack, x.Count, x.Weight.Low, x.Weight.High)...)
	case api.PaperVoid:
		words = append(words, numerals(x.Of)...)
	}
	return strings.Join(words, " "), api.OK
}

func numerals(l ...int) []string {
	var out []string
	for _, n := range l {
		out = append(out, strconv.Itoa(n))
	}
	return out
}

// Read returns the well-formed paper with a line; ErrForm if there is none.
func Read(line string) (api.Paper, api.Errno) {
	x := parse(strings.SplitN(line, " ", packageWords+1))
	// Numbers can be written in several ways, of which Write knows the right one.
	if s, e := Write(x); e != api.OK || s != line {
		return api.Paper{}, api.ErrForm
	}
	return x, api.OK
}

// parse returns the paper that words seem to be of: a paper that is not well-formed if they are of none.
func parse(w []string) api.Paper {
	if len(w) < voidWords {
		return api.Paper{}
	}
	x := api.Paper{Id: number(w[0]), Known: number(w[1])}
	switch {
	case w[2] == kindWords[api.PaperPackage] && len(w) == packageWords:
		x.Kind = api.PaperPackage
		x.Loss, x.Pack, x.In = number(w[3]), number(w[4]), number(w[5])
		x.Mark, x.Goods = w[6], w[7]
		x.Weight = api.Span{Low: number(w[8]), High: number(w[9])}
		x.Pieces, x.Owner = number(w[10]), number(w[11])
	case w[2] == kindWords[api.PaperTotal] && len(w) == totalWords:
		x.Kind = api.PaperTotal
		x.Loss, x.Pack, x.Count = number(w[3]), number(w[4]), number(w[5])
		x.Weight = api.Span{Low: number(w[6]), High: number(w[7])}
	case w[2] == kindWords[api.PaperVoid] && len(w) == voidWords:
		x.Kind = api.PaperVoid
		x.Of = number(w[3])
	}
	return x
}

// number returns the number that a word is; -1, which no field can be, if it is none.
func number(s string) int {
	n, err := strconv.Atoi(s)
	if err != nil {
		return -1
	}
	return n
}
