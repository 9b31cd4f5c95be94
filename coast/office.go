package coast

import (
	"strconv"
	"strings"

	"lagan/api"
	"lagan/inquiry"
	"lagan/post"
)

// The first words of lines that are printed.
const (
	noneWord    = "none"
	okWord      = "ok"
	errorWord   = "error"
	numberWord  = "number"
	recordsWord = "records"
	booksWord   = "books"
	answerWord  = "answer"
	dueWord     = "due"
	heldWord    = "held"
	hasWord     = "has"
)

// equals stands between a question and its answer.
const equals = " = "

// office is where a script is run: what it has printed, and its coast.
type office struct {
	strings.Builder
	coast *Coast // nil as long as there is none
}

// print prints a line.
func (o *office) print(line string) { o.WriteString(line + "\n") }

// say prints a line of a word and numbers.
func (o *office) say(word string, numbers ...int) {
	for _, n := range numbers {
		word += " " + strconv.Itoa(n)
	}
	o.print(word)
}

// fails prints an error, if it is one, and reports whether it is.
func (o *office) fails(e api.Errno) bool {
	if e != api.OK {
		o.say(errorWord, int(e))
	}
	return e != api.OK
}

// tells prints a word and a number, or else an error.
func (o *office) tells(word string, n int, e api.Errno) {
	if !o.fails(e) {
		o.say(word, n)
	}
}

// done prints what became of a command.
func (o *office) done(e api.Errno) {
	if !o.fails(e) {
		o.say(okWord)
	}
}

// begin puts a new coast in the place of the one that there was.
func (o *office) begin(x api.Setup) {
	c, e := New(x)
	if e == api.OK {
		o.coast = c
	}
	o.done(e)
}

func (o *office) tell(station int, text string) {
	n, e := o.coast.Tell(station, text)
	o.tells(numberWord, n, e)
}

func (o *office) settle([]int) {
	n, e := o.coast.Settle()
	o.tells(numberWord, n, e)
}

func (o *office) records(n []int) {
	station := n[0]
	if _, e := o.coast.at(station); o.fails(e) {
		return
	}
	l := o.coast.Records(station)
	o.say(recordsWord, len(l))
	for _, x := range l {
		line, _ := post.WriteRecord(len(o.coast.stations), x)
		o.print(line)
	}
}

func (o *office) books(n []int) {
	station := n[0]
	if _, e := o.coast.at(station); o.fails(e) {
		return
	}
	b := o.coast.Books(station)
	o.say(booksWord, len(b.Papers), len(b.Winds), len(b.Reports), len(b.Deeds), len(b.Rates), len(b.Sales), len(b.Postings))
}

func (o *office) ask(station int, question string) {
	line, e := o.coast.Ask(station, question)
	if o.fails(e) {
		return
	}
	_, answer, _ := strings.Cut(line, equals)
	// What a transcript has behind a question is an answer.
	a, _ := inquiry.ReadAnswer(answer)
	o.say(answerWord, a.Values...)
}

func (o *office) audit(station int, line string) { o.done(o.coast.Audit(station, line)) }

func (o *office) due(n []int) {
	l, e := o.coast.Due(n[0], n[1])
	if o.fails(e) {
		return
	}
	o.say(dueWord, len(l))
	for _, x := range l {
		o.say(strconv.Itoa(x.Party), x.Amount)
	}
}

func (o *office) held(n []int) {
	pence, e := o.coast.Held(n[0])
	o.tells(heldWord, pence, e)
}

func (o *office) has(n []int) {
	pence, e := o.coast.Has(n[0], n[1], n[2])
	o.tells(hasWord, pence, e)
}
