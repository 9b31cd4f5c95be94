package inquiry

import (
	"strings"

	"lagan/api"
)

// maxLines is how many lines a transcript has at most.
const maxLines = api.MaxLists

// equals stands between a question and its answer.
const equals = " = "

// Transcript returns the lines of the questions that are answered, and for each question its error.
func Transcript(b api.Books, questions []string) ([]string, []api.Errno, api.Errno) {
	d, e := deskOf(b)
	if e != api.OK {
		return nil, nil, e
	}
	if len(questions) > maxLines {
		return nil, nil, api.ErrLimit
	}
	var lines []string
	var errors []api.Errno
	for _, s := range questions {
		answer, e := d.tell(s)
		if e == api.OK {
			lines = append(lines, s+equals+answer)
		}
		errors = append(errors, e)
	}
	return lines, errors, api.OK
}

// tell returns the string of an answer to the question with a string.
func (d desk) tell(s string) (string, api.Errno) {
	q, e := ParseQuestion(s)
	if e != api.OK {
		return "", e
	}
	a, e := d.ask(q)
	if e != api.OK {
		return "", e
	}
	return WriteAnswer(a)
}

// Audit returns 0 and OK if all lines are those of questions with answers that are shown; otherwise the index of the
// first one that is not, and its error.
func Audit(b api.Books, lines []string) (int, api.Errno) {
	d, e := deskOf(b)
	if e != api.OK {
		return 0, e
	}
	if len(lines) > maxLines {
		return 0, api.ErrLimit
	}
	for i, line := range lines {
		if e := d.audit(line); e != api.OK {
			return i, e
		}
	}
	return 0, api.OK
}

// audit returns the error of a line.
func (d desk) audit(line string) api.Errno {
	question, answer, is := strings.Cut(line, equals)
	q, noQuestion := ParseQuestion(question)
	a, noAnswer := ReadAnswer(answer)
	if !is || noQuestion != api.OK || noAnswer != api.OK {
		return api.ErrForm
	}
	is, e := d.check(q, a)
	switch {
	case e != api.OK:
		return e
	case !is:
		return api.ErrFalse
	}
	return api.OK
}
