package award

import (
	"cmp"
	"slices"

	"lagan/api"
)

// allGoods is the word for all goods in a line: no name, so that goods are never called so.
const allGoods = "all"

// pay is what is paid for a parcel.
type pay struct {
	finder      api.Frac
	cart, store int
}

// rate is what a rate says: from when on, and for which goods, so much is paid.
type rate struct {
	from  int
	goods string
	pay
}

func bodyOf(x api.Rate) rate {
	return rate{from: x.From, goods: x.Goods, pay: pay{finder: x.Finder, cart: x.Cart, store: x.Store}}
}

func (r rate) isFormed() bool {
	return within(r.from, 0, api.MaxHour) &&
		(r.goods == "" || isName(r.goods)) &&
		isPart(r.finder) &&
		within(r.cart, 0, api.MaxFee) &&
		within(r.store, 0, api.MaxFee)
}

// isName reports whether goods are a name.
func isName(s string) bool {
	if !within(len(s), 1, api.MaxName) || !isLetter(s[0]) || s == allGoods {
		return false
	}
	for i := range len(s) {
		if !isLetter(s[i]) && !isDigit(s[i]) && s[i] != '-' {
			return false
		}
	}
	return true
}

func isLetter(c byte) bool { return 'a' <= c && c <= 'z' }

func isDigit(c byte) bool { return '0' <= c && c <= '9' }

func recordOfRate(x api.Rate) record { return record{id: x.Id, known: x.Known, of: x.Of} }

// CheckRate returns ErrArg for a record that is not well-formed.
func CheckRate(x api.Rate) api.Errno {
	r := recordOfRate(x)
	formed := bodyOf(x).isFormed()
	if r.isVoid() {
		formed = bodyOf(x) == rate{}
	}
	if !formed || !r.isFormed() {
		return api.ErrArg
	}
	return api.OK
}

// CheckRates returns 0 and OK for a valid list, and otherwise the index of the first record that is refused, and its
// error.
func CheckRates(l []api.Rate) (int, api.Errno) {
	return check(l, api.MaxRates, CheckRate, recordOfRate)
}

func checkRates(l []api.Rate) api.Errno {
	_, e := CheckRates(l)
	return e
}

// AppendRate returns a list with a record at its end.
func AppendRate(l []api.Rate, x api.Rate) ([]api.Rate, api.Errno) {
	return appended(l, x, CheckRates)
}

// RateOf returns the rate in force.
func RateOf(l []api.Rate, goods string, hour, known int) (api.Rate, api.Errno) {
	if e := checkRates(l); e != api.OK {
		return api.Rate{}, e
	}
	x, is := inForce(l, goods, hour, known)
	if !is {
		return api.Rate{}, api.ErrRate
	}
	return x, api.OK
}

// inForce returns the rate of a valid list that is in force, and whether there is one.
func inForce(l []api.Rate, goods string, hour, known int) (best api.Rate, is bool) {
	for x := range counting(l, known, recordOfRate) {
		isFor := x.Goods == goods || x.Goods == ""
		if isFor && x.From <= hour && (!is || precedence(x, best) >= 0) {
			best, is = x, true
		}
	}
	return best, is
}

// precedence compares two rates for the same goods, each of which is for these or for all goods.
func precedence(a, b api.Rate) int {
	// No goods at all, which stand for all goods, are less than a name.
	return cmp.Or(cmp.Compare(a.Goods, b.Goods), cmp.Compare(a.From, b.From))
}

// inForceId returns the Id of the rate in force; 0, which none has, if there is none.
func inForceId(l []api.Rate, goods string, hour, known int) int {
	x, _ := inForce(l, goods, hour, known)
	return x.Id
}

// beginnings returns, in ascending order, hours at which alone the rate in force can change.
func beginnings(l []api.Rate) []int {
	var hours []int
	for _, x := range l {
		hours = append(hours, x.From)
	}
	slices.Sort(hours)
	return slices.Compact(hours)
}

// Turns returns, in ascending order, the hours at which the rate in force changes.
func Turns(l []api.Rate, goods string, known int) []int {
	if checkRates(l) != api.OK {
		return nil
	}
	var turns []int
	last := 0
	for _, hour := range beginnings(l) {
		id := inForceId(l, goods, hour, known)
		if id != last {
			turns = append(turns, hour)
		}
		last = id
	}
	return turns
}

// Touched returns the least and the greatest hour at which a further record changes the rate in force, and whether
// there is such an hour.
func Touched(l []api.Rate, x api.Rate, goods string) (from, until int, ok bool, e api.Errno) {
	longer, e := AppendRate(l, x)
	if e != api.OK {
		return 0, 0, false, e
	}
	hours := append(beginnings(longer), api.MaxHour+1)
	for i, next := range hours[1:] {
		hour := hours[i]
		if inForceId(l, goods, hour, x.Known) == inForceId(longer, goods, hour, x.Known) {
			continue
		}
		if !ok {
			from, ok = hour, true
		}
		until = next - 1
	}
	return from, until, ok, api.OK
}
