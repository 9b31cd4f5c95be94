package coast

import (
	"slices"

	"lagan/api"
)

// Send puts the greeting of a station on its line to another one.
func (c *Coast) Send(from, to int) api.Errno {
	s, e := c.at(from)
	if e != api.OK {
		return e
	}
	if _, e := c.at(to); e != api.OK || from == to {
		return api.ErrArg
	}
	if s.isDown() {
		return api.ErrDown
	}
	return c.put(from, to, s.Greeting())
}

// Carry lets a station hear a message from a line to it, and puts its answer on the line back.
func (c *Coast) Carry(from, to, index int) api.Errno {
	m, e := c.message(from, to, index)
	if e != api.OK {
		return e
	}
	s := c.stations[to]
	if s.isDown() {
		return api.ErrDown
	}
	c.take(from, to, index)
	answer, e := s.Hear(m)
	if e != api.OK {
		return e
	}
	if answer != "" {
		// An answer for which there is no room is lost, like other messages.
		c.put(to, from, answer)
	}
	return api.OK
}

// Lose takes a message away from a line.
func (c *Coast) Lose(from, to, index int) api.Errno {
	if _, e := c.message(from, to, index); e != api.OK {
		return e
	}
	c.take(from, to, index)
	return api.OK
}

// Repeat puts a copy of a message at the end of its line.
func (c *Coast) Repeat(from, to, index int) api.Errno {
	m, e := c.message(from, to, index)
	if e != api.OK {
		return e
	}
	return c.put(from, to, m)
}

// message returns the message with an index on a line; ErrNone if there is no such one.
func (c *Coast) message(from, to, index int) (string, api.Errno) {
	if c == nil {
		return "", api.ErrNil
	}
	// Nothing is ever put on a line that there is not, though the array has a place for it.
	if !within(from, 0, len(c.lines)-1) || !within(to, 0, len(c.lines)-1) || !within(index, 0, len(c.lines[from][to])-1) {
		return "", api.ErrNone
	}
	return c.lines[from][to][index], api.OK
}

// take takes away a message that is on a line.
func (c *Coast) take(from, to, index int) {
	c.lines[from][to] = slices.Delete(c.lines[from][to], index, index+1)
}

// put puts a message at the end of a line; ErrFull if it has no room.
func (c *Coast) put(from, to int, m string) api.Errno {
	if len(c.lines[from][to]) >= api.MaxLine {
		return api.ErrFull
	}
	c.lines[from][to] = append(c.lines[from][to], m)
	return api.OK
}
