package purse

import (
	"slices"
	"strconv"
	"strings"

	"lagan/api"
)

// kindWords are the words of the kinds of postings.
var kindWords = [4]string{"", "sale", "pay", "back"}

// Where in a line the word of the kind stands, and behind it the party, which a sale does not have; and how many words a
// line has that has one.
const (
	kindPlace  = 2
	partyPlace = 3
	mostWords  = 8
)

// Write returns the line of a posting.
func Write(p api.Posting) (string, api.Errno) {
	if e := CheckPosting(p); e != api.OK {
		return "", e
	}
	words := []string{strconv.Itoa(p.Id), strconv.Itoa(p.Hour), kindWords[p.Kind]}
	if p.Kind != api.PostSale {
		words = append(words, strconv.Itoa(p.Party))
	}
	for _, n := range [4]int{p.Parcel, p.Amount, p.Reason, p.Known} {
		words = append(words, strconv.Itoa(n))
	}
	return strings.Join(words, " "), api.OK
}

// Read returns the well-formed posting with a line; ErrForm if there is none.
func Read(line string) (api.Posting, api.Errno) {
	p, is := parse(strings.SplitN(line, " ", mostWords+1))
	if !is {
		return api.Posting{}, api.ErrForm
	}
	// Numbers can be written in several ways, of which Write knows the right one.
	if s, e := Write(p); e != api.OK || s != line {
		return api.Posting{}, api.ErrForm
	}
	return p, api.OK
}

// parse returns the posting that words seem to be of, and whether there is one.
func parse(words []string) (p api.Posting, is bool) {
	if len(words) < partyPlace {
		return api.Posting{}, false
	}
	kind, is := kindOf(words[kindPlace])
	if !is {
		return api.Posting{}, false
	}
	var unsaid []string
	if kind == api.PostSale {
		unsaid = []string{"0"}
	}
	n, are := numbers(slices.Concat(words[:kindPlace], unsaid, words[partyPlace:]))
	if !are || len(n) != mostWords-1 {
		return api.Posting{}, false
	}
	return api.Posting{
		Id: n[0], Hour: n[1], Kind: kind,
		Party: n[2], Parcel: n[3], Amount: n[4], Reason: n[5], Known: n[6],
	}, true
}

// kindOf returns the kind with a word, and whether there is one.
func kindOf(word string) (kind uint8, is bool) {
	for _, kind := range [3]uint8{api.PostSale, api.PostPay, api.PostBack} {
		if kindWords[kind] == word {
			return kind, true
		}
	}
	return 0, false
}

// numbers returns the numbers that words are, and whether they are.
func numbers(words []string) ([]int, bool) {
	var out []int
	for _, word := range words {
		n, err := strconv.Atoi(word)
		if err != nil {
			return nil, false
		}
		out = append(out, n)
	}
	return out, true
}
