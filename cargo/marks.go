package cargo

import "lagan/api"

// unread is a sign of a mark that cannot be read.
const unread = '?'

// Meet reports whether two strings are marks that can be one.
func Meet(a, b string) bool {
	if !isMark(a) || !isMark(b) || len(a) != len(b) {
		return false
	}
	for i := range len(a) {
		if a[i] != b[i] && a[i] != unread && b[i] != unread {
			return false
		}
	}
	return true
}

// Signs returns how many signs of a mark are read; 0 if it is none.
func Signs(mark string) int {
	if !isMark(mark) {
		return 0
	}
	n := 0
	for i := range len(mark) {
		if mark[i] != unread {
			n++
		}
	}
	return n
}

func isMark(s string) bool {
	return within(len(s), 1, api.MaxMark) && consistsOf(s, func(c byte) bool {
		return isLetter(c) || isDigit(c) || c == unread
	})
}

// isName reports whether a string is a name, as goods have one.
func isName(s string) bool {
	return within(len(s), 1, api.MaxName) && isLetter(s[0]) && consistsOf(s, func(c byte) bool {
		return isLetter(c) || isDigit(c) || c == '-'
	})
}

func consistsOf(s string, is func(byte) bool) bool {
	for i := range len(s) {
		if !is(s[i]) {
			return false
		}
	}
	return true
}

func isLetter(c byte) bool { return 'a' <= c && c <= 'z' }

func isDigit(c byte) bool { return '0' <= c && c <= '9' }
