package coast

import (
	"strconv"
	"strings"

	"lagan/api"
)

// comment is the sign that a line begins with which does nothing.
const comment = "#"

// maxDigits is how many digits a number has at most.
const maxDigits = 9

// Run runs a script, and returns what its lines print; otherwise the number of the first line that has no form.
func Run(script string) (string, int, api.Errno) {
	if len(script) > api.MaxScript {
		return "", 0, api.ErrLimit
	}
	steps, wrong := read(script)
	if wrong != 0 {
		return "", wrong, api.ErrForm
	}
	var o office
	for _, do := range steps {
		do(&o)
	}
	return o.String(), 0, api.OK
}

// step is what a line of a script does in an office.
type step func(o *office)

// read returns the steps of a script, and the number of the first line that has no form; 0 if all have one.
func read(script string) (steps []step, wrong int) {
	lines := strings.Split(strings.TrimSuffix(script, "\n"), "\n")
	s := sheet{lines: lines, readers: readers()}
	for len(s.lines) > 0 {
		number := len(lines) - len(s.lines) + 1
		do, is := s.readLine()
		if !is {
			return nil, number
		}
		steps = append(steps, do)
	}
	return steps, 0
}

// sheet is a script that is being read: the lines behind the one that is read, and what is left of this one.
type sheet struct {
	lines   []string
	readers map[string]func(*sheet) step // by the first words of lines
	rest    string
	isEnd   bool // nothing is left of the line, not even an empty word
}

// readLine reads the next line, and reports whether it has a form.
func (s *sheet) readLine() (do step, is bool) {
	defer func() {
		if recover() != nil {
			do, is = nil, false
		}
	}()
	line := s.lines[0]
	s.lines = s.lines[1:]
	if line == "" || strings.HasPrefix(line, comment) {
		return func(*office) {}, true
	}
	s.rest, s.isEnd = line, false
	first := s.word()
	reader, is := s.readers[first]
	require(is)
	do = reader(s)
	require(s.isEnd)
	return do, true
}

// require leaves a line that has no form.
func require(is bool) {
	if !is {
		panic(api.ErrForm)
	}
}

// word cuts off the next word of the line. (An empty one is no first word, and no number.)
func (s *sheet) word() string {
	require(!s.isEnd)
	word, rest, more := strings.Cut(s.rest, " ")
	s.rest, s.isEnd = rest, !more
	return word
}

// text cuts off all that is left of the line.
func (s *sheet) text() string {
	require(!s.isEnd && s.rest != "")
	s.isEnd = true
	return s.rest
}

// number cuts off the next word of the line, which has to be a number.
func (s *sheet) number() int { return numberOf(s.word()) }

// signed cuts off the next word of the line, which has to be a number that may be less than 0.
func (s *sheet) signed() int {
	digits, isNegative := strings.CutPrefix(s.word(), "-")
	n := numberOf(digits)
	if isNegative {
		require(n != 0)
		return -n
	}
	return n
}

func (s *sheet) numbers(count int) []int {
	var out []int
	for range count {
		out = append(out, s.number())
	}
	return out
}

// numberOf returns the number of decimal digits.
func numberOf(digits string) int {
	n, err := strconv.Atoi(digits)
	require(err == nil && n >= 0 && len(digits) <= maxDigits && strconv.Itoa(n) == digits)
	return n
}
