package inquiry

import (
	"strings"

	"lagan/api"
)

// maxNumbers is how many numbers a list of a proof has at most.
const maxNumbers = 2000

// minNumber is the least number of an answer.
const minNumber = -1

// listWord is the word that stands before each list of a proof.
const listWord = "|"

// checkAnswer returns the error of an answer that is written.
func checkAnswer(a api.Answer) api.Errno {
	if len(a.Values) > api.MaxValues || len(a.Proof) > api.MaxLists {
		return api.ErrLimit
	}
	for _, l := range a.Proof {
		if len(l) > maxNumbers {
			return api.ErrLimit
		}
	}
	for _, l := range append([][]int{a.Values}, a.Proof...) {
		for _, n := range l {
			if !within(n, minNumber, api.MaxNum) {
				return api.ErrArg
			}
		}
	}
	return api.OK
}

// WriteAnswer returns the string of an answer.
func WriteAnswer(a api.Answer) (string, api.Errno) {
	if e := checkAnswer(a); e != api.OK {
		return "", e
	}
	words := numerals(a.Values)
	for _, l := range a.Proof {
		words = append(words, listWord)
		words = append(words, numerals(l)...)
	}
	return strings.Join(words, " "), api.OK
}

// ReadAnswer returns the answer with a string.
func ReadAnswer(s string) (api.Answer, api.Errno) {
	var a api.Answer
	if s == "" {
		return a, api.OK
	}
	is := attempt(func() {
		list := &a.Values
		cut := cutter(s)
		for word, is := cut(); is; word, is = cut() {
			if word == listWord {
				a.Proof = append(a.Proof, nil)
				list = &a.Proof[len(a.Proof)-1]
			} else {
				*list = append(*list, number(word))
			}
		}
	})
	if !is || checkAnswer(a) != api.OK {
		return api.Answer{}, api.ErrForm
	}
	return a, api.OK
}
