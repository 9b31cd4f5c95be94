package inquiry

import "lagan/api"

// atWord is the word that questions begin with.
const atWord = "at"

// maxArg is the greatest argument of a question: the greatest number of a parcel.
const maxArg = 10*api.MaxId + api.MaxDivide - 1

// kind is what there is to a kind of questions.
type kind struct {
	word    string
	args    int
	refusal func(m matter) api.Errno
	answer  func(m matter) api.Answer // if there is no refusal
	check   func(m matter, x *exhibit)
}

// kinds returns the kinds of questions.
func kinds() map[uint8]kind {
	return map[uint8]kind{
		api.AskWeight:  {"weight", 1, matter.refuseWeight, matter.answerWeight, matter.checkWeight},
		api.AskPackage: {"package", 2, matter.refusePackage, matter.answerPackage, matter.checkPackage},
		api.AskPlace:   {"place", 5, matter.refusePlace, matter.answerPlace, matter.checkPlace},
		api.AskAssign:  {"assign", 0, matter.refuseAssign, matter.answerAssign, matter.checkAssign},
		api.AskMay:     {"may", 3, matter.refuseMay, matter.answerMay, matter.checkMay},
		api.AskTitle:   {"title", 3, matter.refuseTitle, matter.answerTitle, matter.checkTitle},
		api.AskSure:    {"sure", 2, matter.refuseSure, matter.answerSure, matter.checkSure},
		api.AskDue:     {"due", 2, matter.refuseDue, matter.answerDue, matter.checkDue},
	}
}

// kindOf returns the kind of questions with a word; 0, which is none, if there is none.
func kindOf(word string) uint8 {
	for n, k := range kinds() {
		if k.word == word {
			return n
		}
	}
	return 0
}

// checkQuestion returns ErrArg for a question that is not as the chapter says.
func checkQuestion(q api.Question) api.Errno {
	k, is := kinds()[q.Kind]
	if !is || !within(q.Known, 0, api.MaxHour) || len(q.Args) != k.args {
		return api.ErrArg
	}
	for _, n := range q.Args {
		if !within(n, 0, maxArg) {
			return api.ErrArg
		}
	}
	return api.OK
}

// ParseQuestion reads the string of a question.
func ParseQuestion(s string) (api.Question, api.Errno) {
	var q api.Question
	is := attempt(func() {
		cut := cutter(s)
		require(next(cut) == atWord)
		q.Known = number(next(cut))
		q.Kind = kindOf(next(cut))
		q.Args = numbers(cut)
	})
	if !is || checkQuestion(q) != api.OK {
		return api.Question{}, api.ErrForm
	}
	return q, api.OK
}

// PrintQuestion returns the string of a question.
func PrintQuestion(q api.Question) (string, api.Errno) {
	if e := checkQuestion(q); e != api.OK {
		return "", e
	}
	return lineOf([]string{lineOf([]string{atWord}, q.Known), kinds()[q.Kind].word}, q.Args...), api.OK
}

// matter is a question that is put to books.
type matter struct {
	*books
	args []int
}

// desk is valid books about which questions are asked, as known at some hours.
type desk struct {
	api.Books
	views map[int]*books
}

func deskOf(b api.Books) (desk, api.Errno) {
	return desk{b, map[int]*books{}}, CheckBooks(b)
}

// bring returns the matter of a question, and its kind, or the error with which it is refused.
func (d desk) bring(q api.Question) (matter, kind, api.Errno) {
	if e := checkQuestion(q); e != api.OK {
		return matter{}, kind{}, e
	}
	if d.views[q.Known] == nil {
		d.views[q.Known] = newBooks(d.Books, q.Known)
	}
	m, k := matter{d.views[q.Known], q.Args}, kinds()[q.Kind]
	return m, k, k.refusal(m)
}

func (d desk) ask(q api.Question) (api.Answer, api.Errno) {
	m, k, e := d.bring(q)
	if e != api.OK {
		return api.Answer{}, e
	}
	return k.answer(m), api.OK
}

func (d desk) check(q api.Question, a api.Answer) (bool, api.Errno) {
	m, k, e := d.bring(q)
	if e != api.OK {
		return false, e
	}
	x := exhibit{a.Values, a.Proof}
	return attempt(func() {
		k.check(m, &x)
		require(x.isDone())
	}), api.OK
}

// Ask returns an answer to a question that is shown.
func Ask(b api.Books, q api.Question) (api.Answer, api.Errno) {
	d, e := deskOf(b)
	if e != api.OK {
		return api.Answer{}, e
	}
	return d.ask(q)
}

// Check reports whether an answer to a question is shown.
func Check(b api.Books, q api.Question, a api.Answer) (bool, api.Errno) {
	d, e := deskOf(b)
	if e != api.OK {
		return false, e
	}
	return d.check(q, a)
}
