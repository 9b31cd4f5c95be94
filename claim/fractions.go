package claim

import (
	"cmp"

	"lagan/api"
)

// maxTerm is how great a numerator or a denominator of Norm is at most.
const maxTerm = 1000000000000000

// fraction is a valid fraction. A result of its methods that is not in range is left by a panic with ErrLimit.
type fraction api.Frac

var (
	nothing = fraction{Num: 0, Den: 1}
	whole   = fraction{Num: 1, Den: 1}
)

// attempt does something, and returns ErrLimit if it comes to a number that is not in range.
func attempt(do func()) (e api.Errno) {
	defer func() {
		if recover() != nil {
			e = api.ErrLimit
		}
	}()
	do()
	return api.OK
}

func isValid(a api.Frac) bool {
	return isInRange(fraction(a)) && divisor(a.Num, a.Den) == 1
}

// isInRange reports whether the terms of a fraction, which is in lowest terms, are those of a valid one.
func isInRange(a fraction) bool {
	return within(a.Den, 1, api.MaxDen) && within(a.Num, -api.MaxNum, api.MaxNum)
}

// isPart reports whether a fraction is valid, greater than 0 and at most 1.
func isPart(a api.Frac) bool {
	return isValid(a) && a.Num > 0 && a.Num <= a.Den
}

func magnitude(n int) int { return max(n, -n) }

// divisor returns the greatest common divisor of two numbers that are not both 0.
func divisor(a, b int) int {
	for b != 0 {
		a, b = b, a%b
	}
	return magnitude(a)
}

// lowest returns a fraction in lowest terms; den is greater than 0.
func lowest(num, den int) fraction {
	d := divisor(num, den)
	return fraction{Num: num / d, Den: den / d}
}

// ranged returns a fraction that is in lowest terms. It panics if it is not in range.
func ranged(a fraction) fraction {
	if !isInRange(a) {
		panic(api.ErrLimit)
	}
	return a
}

func (a fraction) plus(b fraction) fraction {
	return ranged(lowest(a.Num*b.Den+b.Num*a.Den, a.Den*b.Den))
}

func (a fraction) minus(b fraction) fraction { return a.plus(b.negative()) }

func (a fraction) negative() fraction { return fraction{Num: -a.Num, Den: a.Den} }

func (a fraction) times(b fraction) fraction {
	// The terms are divided first, because the product of two numerators need not be an int.
	x, y := lowest(a.Num, b.Den), lowest(b.Num, a.Den)
	if y.Num != 0 && magnitude(x.Num) > api.MaxNum/magnitude(y.Num) {
		panic(api.ErrLimit)
	}
	return ranged(fraction{Num: x.Num * y.Num, Den: x.Den * y.Den})
}

// compare needs no lowest terms.
func (a fraction) compare(b fraction) int { return cmp.Compare(a.Num*b.Den, b.Num*a.Den) }

func (a fraction) least(b fraction) fraction {
	if a.compare(b) > 0 {
		return b
	}
	return a
}

func (a fraction) greatest(b fraction) fraction {
	if a.compare(b) < 0 {
		return b
	}
	return a
}

func (a fraction) floor() int {
	n := a.Num / a.Den
	if a.Num < n*a.Den {
		n--
	}
	return n
}

func (a fraction) ceil() int { return -a.negative().floor() }

// Norm returns the valid fraction with the value num / den.
func Norm(num, den int) (a api.Frac, e api.Errno) {
	if den == 0 || !within(num, -maxTerm, maxTerm) || !within(den, -maxTerm, maxTerm) {
		return api.Frac{}, api.ErrArg
	}
	if den < 0 {
		num, den = -num, -den
	}
	e = attempt(func() { a = api.Frac(ranged(lowest(num, den))) })
	return a, e
}

// Add returns the sum of two fractions.
func Add(a, b api.Frac) (api.Frac, api.Errno) { return joined(a, b, fraction(a).plus) }

// Sub returns the difference of two fractions.
func Sub(a, b api.Frac) (api.Frac, api.Errno) { return joined(a, b, fraction(a).minus) }

// Mul returns the product of two fractions.
func Mul(a, b api.Frac) (api.Frac, api.Errno) { return joined(a, b, fraction(a).times) }

// joined returns what a method of a makes of b, if both are valid.
func joined(a, b api.Frac, with func(fraction) fraction) (c api.Frac, e api.Errno) {
	if !isValid(a) || !isValid(b) {
		return api.Frac{}, api.ErrArg
	}
	e = attempt(func() { c = api.Frac(with(fraction(b))) })
	return c, e
}

// Sum returns the sum of a list of fractions, from the first one on.
func Sum(l []api.Frac) (sum api.Frac, e api.Errno) {
	if len(l) > api.MaxTerms {
		return api.Frac{}, api.ErrLimit
	}
	for _, a := range l {
		if !isValid(a) {
			return api.Frac{}, api.ErrArg
		}
	}
	e = attempt(func() { sum = api.Frac(sumOf(l)) })
	return sum, e
}

func sumOf(l []api.Frac) fraction {
	sum := nothing
	for _, a := range l {
		sum = sum.plus(fraction(a))
	}
	return sum
}

// Compare returns -1, 0 or 1 if a is less than, equal to or greater than b; 0 if one is not valid.
func Compare(a, b api.Frac) int {
	if !isValid(a) || !isValid(b) {
		return 0
	}
	return fraction(a).compare(fraction(b))
}

// Floor returns the greatest integer that is at most a; 0 if it is not valid.
func Floor(a api.Frac) int { return integer(a, fraction(a).floor) }

// Ceil returns the least integer that is at least a; 0 if it is not valid.
func Ceil(a api.Frac) int { return integer(a, fraction(a).ceil) }

// integer returns what a method of a returns, and 0 if it is not valid.
func integer(a api.Frac, of func() int) int {
	if !isValid(a) {
		return 0
	}
	return of()
}
