package inquiry

import (
	"strconv"
	"strings"
)

// cutter returns a function that cuts off the next word of a text, and reports whether there was one.
func cutter(text string) func() (word string, is bool) {
	left := true
	return func() (string, bool) {
		if !left {
			return "", false
		}
		var word string
		word, text, left = strings.Cut(text, " ")
		return word, true
	}
}

// next returns the next word. It gives up if there is none.
func next(cut func() (string, bool)) string {
	word, is := cut()
	require(is)
	return word
}

// numbers returns the numbers that all further words are. It gives up if one is none.
func numbers(cut func() (string, bool)) []int {
	var out []int
	for word, is := cut(); is; word, is = cut() {
		out = append(out, number(word))
	}
	return out
}

// number returns the number that a word is. It gives up if it is none, or is written in another way.
func number(word string) int {
	n, err := strconv.Atoi(word)
	require(err == nil && strconv.Itoa(n) == word)
	return n
}

func numerals(l []int) []string {
	var out []string
	for _, n := range l {
		out = append(out, strconv.Itoa(n))
	}
	return out
}

// lineOf returns words, and numbers behind them, with a blank between two of them.
func lineOf(words []string, l ...int) string {
	return strings.Join(append(words, numerals(l)...), " ")
}
