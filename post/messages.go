package post

import (
	"strconv"
	"strings"

	"lagan/api"
)

// The first words of messages.
const (
	greetingWord = "have"
	letterWord   = "post"
)

// message is a greeting or a letter.
type message interface {
	text() string
}

// greeting is how many records of each station somebody has.
type greeting []int

func (g greeting) text() string {
	words := []string{greetingWord}
	for _, have := range g {
		words = append(words, strconv.Itoa(have))
	}
	return strings.Join(words, " ") + "\n"
}

func (g greeting) stock() api.Stock {
	var out api.Stock
	copy(out.Have[:], g)
	return out
}

// letter is records on the way.
type letter []api.Record

func (l letter) text() string {
	lines := []string{letterWord + " " + strconv.Itoa(len(l))}
	for _, x := range l {
		lines = append(lines, lineOf(x))
	}
	return strings.Join(lines, "\n") + "\n"
}

// readMessage returns the message of n stations with a text; nil if there is none.
func readMessage(n int, text string) message {
	var m message
	is := attempt(func() {
		cut := cutter(text)
		switch cut(" ") {
		case greetingWord:
			m = readGreeting(n, cut)
		case letterWord:
			m = readLetter(n, cut)
		default:
			require(false)
		}
		// Numbers can be written in several ways, and more can be behind a message.
		require(m.text() == text)
	})
	if !is {
		return nil
	}
	return m
}

// readGreeting reads what is behind the first word of a greeting.
func readGreeting(n int, cut func(sign string) string) greeting {
	var g greeting
	for len(g) < n {
		sign := " "
		if len(g) == n-1 {
			sign = "\n"
		}
		have := numberOf(cut(sign))
		require(within(have, 0, api.MaxRecords))
		g = append(g, have)
	}
	return g
}

// readLetter reads what is behind the first word of a letter.
func readLetter(n int, cut func(sign string) string) letter {
	count := numberOf(cut("\n"))
	require(within(count, 1, api.MaxLetter))
	var l letter
	for range count {
		x := readRecord(n, cut)
		require(len(l) == 0 || ascend(l[len(l)-1], x))
		l = append(l, x)
	}
	return l
}
