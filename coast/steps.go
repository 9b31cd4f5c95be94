package coast

import (
	"strings"

	"lagan/api"
)

// readers returns, for the first words of lines, the functions that read what is behind them.
func readers() map[string]func(*sheet) step {
	return map[string]func(*sheet) step{
		"setup":   (*sheet).setup,
		"pass":    numbered(1, one((*Coast).Pass)),
		"tell":    worded((*office).tell),
		"settle":  numbered(0, (*office).settle),
		"send":    numbered(2, two((*Coast).Send)),
		"carry":   numbered(3, three((*Coast).Carry)),
		"lose":    numbered(3, three((*Coast).Lose)),
		"repeat":  numbered(3, three((*Coast).Repeat)),
		"stop":    numbered(2, two((*Coast).Stop)),
		"crash":   (*sheet).crash,
		"records": numbered(1, (*office).records),
		"books":   numbered(1, (*office).books),
		"ask":     worded((*office).ask),
		"audit":   worded((*office).audit),
		"due":     numbered(2, (*office).due),
		"held":    numbered(1, (*office).held),
		"has":     numbered(3, (*office).has),
	}
}

// onCoast returns a step that needs a coast.
func onCoast(do step) step {
	return func(o *office) {
		if o.coast == nil {
			o.say(noneWord)
			return
		}
		do(o)
	}
}

// numbered reads lines with a count of numbers.
func numbered(count int, do func(o *office, n []int)) func(*sheet) step {
	return func(s *sheet) step {
		n := s.numbers(count)
		return onCoast(func(o *office) { do(o, n) })
	}
}

// worded reads lines with the number of a station, and a text.
func worded(do func(o *office, station int, text string)) func(*sheet) step {
	return func(s *sheet) step {
		station := s.number()
		text := s.text()
		return onCoast(func(o *office) { do(o, station, text) })
	}
}

// one makes a command with a number that of an office.
func one(do func(c *Coast, a int) api.Errno) func(*office, []int) {
	return func(o *office, n []int) { o.done(do(o.coast, n[0])) }
}

// two makes a command with two numbers that of an office.
func two(do func(c *Coast, a, b int) api.Errno) func(*office, []int) {
	return func(o *office, n []int) { o.done(do(o.coast, n[0], n[1])) }
}

// three makes a command with three numbers that of an office.
func three(do func(c *Coast, a, b, i int) api.Errno) func(*office, []int) {
	return func(o *office, n []int) { o.done(do(o.coast, n[0], n[1], n[2])) }
}

// setup reads how a coast begins, with the lines of its season.
func (s *sheet) setup() step {
	n := s.numbers(3)
	count := n[2]
	require(count <= len(s.lines))
	var season strings.Builder
	for _, line := range s.lines[:count] {
		season.WriteString(line + "\n")
	}
	s.lines = s.lines[count:]
	x := api.Setup{Stations: n[0], Sectors: n[1], Season: season.String()}
	return func(o *office) { o.begin(x) }
}

// crash reads the number of a station, and what its disk keeps of what was pending.
func (s *sheet) crash() step {
	station := s.number()
	var keep []int
	for !s.isEnd {
		keep = append(keep, s.signed())
	}
	return onCoast(func(o *office) { o.done(o.coast.Crash(station, keep)) })
}
