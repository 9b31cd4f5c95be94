package claim

import (
	"slices"
	"strconv"
	"strings"

	"lagan/api"
)

// kindWords are the words of the kinds of deeds.
var kindWords = [7]string{"", "paid", "sold", "left", "claim", "withdraw", "void"}

// mostWords is how many words a line has at most.
const mostWords = 10

// head returns the fields of a deed that stand before the word of its Kind in its line.
func head(x *api.Deed) []*int {
	if x.Kind == api.DeedVoid {
		return []*int{&x.Id, &x.Known}
	}
	return []*int{&x.Id, &x.Known, &x.Hour}
}

// Write returns the line of a deed.
func Write(x api.Deed) (string, api.Errno) {
	if e := CheckDeed(x); e != api.OK {
		return "", e
	}
	words := append(numerals(head(&x)), kindWords[x.Kind])
	words = append(words, numerals(fields(&x))...)
	return strings.Join(words, " "), api.OK
}

func numerals(fields []*int) []string {
	var out []string
	for _, field := range fields {
		out = append(out, strconv.Itoa(*field))
	}
	return out
}

// Read returns the well-formed deed with a line; ErrForm if there is none.
func Read(line string) (api.Deed, api.Errno) {
	x := parse(strings.SplitN(line, " ", mostWords+1))
	// Numbers can be written in several ways, of which Write knows the right one.
	if s, e := Write(x); e != api.OK || s != line {
		return api.Deed{}, api.ErrForm
	}
	return x, api.OK
}

// parse returns the deed that words seem to be of: one that is not well-formed if they are of none.
func parse(words []string) api.Deed {
	for kind, word := range kindWords {
		x := api.Deed{Kind: uint8(kind)}
		all := slices.Concat(head(&x), fields(&x))
		place := len(head(&x))
		if len(words) != len(all)+1 || words[place] != word {
			continue
		}
		numbers := slices.Delete(slices.Clone(words), place, place+1)
		for i, field := range all {
			// What is not a number leaves one here that is written otherwise.
			*field, _ = strconv.Atoi(numbers[i])
		}
		return x
	}
	return api.Deed{}
}
