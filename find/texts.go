package find

import (
	"strconv"
	"strings"

	"lagan/api"
)

// kindWords are the words of the kinds of reports.
var kindWords = [9]string{"", "found", "divided", "joined", "weighed", "hidden", "shown", "same", "void"}

// Where the word of the kind stands in a line, and how many words a line has at most.
const (
	kindPlace = 3
	voidPlace = 2
	mostWords = kindPlace + 1 + api.MaxDivide
)

// Write returns the line of a report.
func Write(x api.Report) (string, api.Errno) {
	if CheckReport(x) != api.OK {
		return "", api.ErrArg
	}
	words := numerals(x.Id, x.Known)
	if x.Kind != api.ReportVoid {
		words = append(words, numerals(x.Hour)...)
	}
	words = append(words, kindWords[x.Kind])
	switch x.Kind {
	case api.ReportFound:
		words = append(words, strconv.Itoa(x.Cell), x.Mark, x.Goods)
		words = append(words, numerals(x.Weight.Low, x.Weight.High, x.Party)...)
	case api.ReportDivided:
		words = append(words, numerals(x.Parcel, x.Count)...)
	case api.ReportJoined:
		words = append(words, numerals(x.Parts...)...)
	case api.ReportWeighed:
		words = append(words, numerals(x.Parcel, x.Weight.Low, x.Weight.High)...)
	case api.ReportHidden, api.ReportShown:
		words = append(words, numerals(x.Parcel, x.Party)...)
	case api.ReportSame:
		words = append(words, numerals(x.Parcel, x.Other)...)
	case api.ReportVoid:
		words = append(words, numerals(x.Of)...)
	}
	return strings.Join(words, " "), api.OK
}

func numerals(l ...int) []string {
	var out []string
	for _, n := range l {
		out = append(out, strconv.Itoa(n))
	}
	return out
}

// Read returns the well-formed report with a line; ErrForm if there is none.
func Read(line string) (x api.Report, e api.Errno) {
	defer func() {
		if recover() != nil {
			x, e = api.Report{}, api.ErrForm
		}
	}()
	x = parse(strings.SplitN(line, " ", mostWords+1))
	// Numbers can be written in several ways, of which Write knows the right one.
	if s, e := Write(x); e != api.OK || s != line {
		panic(api.ErrForm)
	}
	return x, api.OK
}

// parse returns the report that words seem to be of. It panics if they are of none.
func parse(words []string) api.Report {
	place := kindPlace
	if len(words) > voidPlace && words[voidPlace] == kindWords[api.ReportVoid] {
		place = voidPlace
	}
	mustBe(len(words) > place)
	read, is := readers()[words[place]]
	mustBe(is)
	x := read(words[place+1:])
	x.Id, x.Known = number(words[0]), number(words[1])
	if place == kindPlace {
		x.Hour = number(words[voidPlace])
	}
	return x
}

func mustBe(is bool) {
	if !is {
		panic(api.ErrForm)
	}
}

// number returns the number that a word is. It panics if it is none.
func number(word string) int {
	n, err := strconv.Atoi(word)
	mustBe(err == nil)
	return n
}

// numbers returns the numbers that some words are. It panics if they are not as many, or are none.
func numbers(words []string, count int) []int {
	mustBe(len(words) == count)
	var out []int
	for _, word := range words {
		out = append(out, number(word))
	}
	return out
}

// readers returns, by the words of the kinds, what reads the words behind them, and panics if they are of none.
func readers() map[string]func(words []string) api.Report {
	return map[string]func([]string) api.Report{
		kindWords[api.ReportFound]: readFound,
		kindWords[api.ReportDivided]: func(words []string) api.Report {
			n := numbers(words, 2)
			return api.Report{Kind: api.ReportDivided, Parcel: n[0], Count: n[1]}
		},
		kindWords[api.ReportJoined]: func(words []string) api.Report {
			return api.Report{Kind: api.ReportJoined, Parts: numbers(words, len(words))}
		},
		kindWords[api.ReportWeighed]: func(words []string) api.Report {
			n := numbers(words, 3)
			return api.Report{Kind: api.ReportWeighed, Parcel: n[0], Weight: api.Span{Low: n[1], High: n[2]}}
		},
		kindWords[api.ReportHidden]: func(words []string) api.Report {
			n := numbers(words, 2)
			return api.Report{Kind: api.ReportHidden, Parcel: n[0], Party: n[1]}
		},
		kindWords[api.ReportShown]: func(words []string) api.Report {
			n := numbers(words, 2)
			return api.Report{Kind: api.ReportShown, Parcel: n[0], Party: n[1]}
		},
		kindWords[api.ReportSame]: func(words []string) api.Report {
			n := numbers(words, 2)
			return api.Report{Kind: api.ReportSame, Parcel: n[0], Other: n[1]}
		},
		kindWords[api.ReportVoid]: func(words []string) api.Report {
			return api.Report{Kind: api.ReportVoid, Of: numbers(words, 1)[0]}
		},
	}
}

func readFound(words []string) api.Report {
	mustBe(len(words) > 3)
	n := numbers(words[3:], 3)
	return api.Report{
		Kind: api.ReportFound, Cell: number(words[0]), Mark: words[1], Goods: words[2],
		Weight: api.Span{Low: n[0], High: n[1]}, Party: n[2],
	}
}
