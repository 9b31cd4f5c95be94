package award

import (
	"slices"
	"strconv"
	"strings"

	"lagan/api"
)

// The words of a line that say what it is.
const (
	rateWord = "rate"
	saleWord = "sale"
	voidWord = "void"
)

// How many words the line of a rate or a sale has, and that of a void.
const (
	fullWords = 9
	voidWords = 4
)

// WriteRate returns the line of a record of rates.
func WriteRate(x api.Rate) (string, api.Errno) {
	if e := CheckRate(x); e != api.OK {
		return "", e
	}
	if x.Of != 0 {
		return voidLine(recordOfRate(x)), api.OK
	}
	goods := x.Goods
	if goods == "" {
		goods = allGoods
	}
	return lineOf(
		numerals(x.Id, x.Known), []string{rateWord}, numerals(x.From), []string{goods},
		numerals(x.Finder.Num, x.Finder.Den, x.Cart, x.Store),
	), api.OK
}

// WriteSale returns the line of a record of sales.
func WriteSale(x api.Sale) (string, api.Errno) {
	if e := CheckSale(x); e != api.OK {
		return "", e
	}
	if x.Of != 0 {
		return voidLine(recordOfSale(x)), api.OK
	}
	return lineOf(
		numerals(x.Id, x.Known, x.Hour), []string{saleWord},
		numerals(x.Parcel, x.Price, x.Carter, x.Keeper, x.Since),
	), api.OK
}

func voidLine(r record) string {
	return lineOf(numerals(r.id, r.known), []string{voidWord}, numerals(r.of))
}

func lineOf(words ...[]string) string { return strings.Join(slices.Concat(words...), " ") }

func numerals(l ...int) []string {
	var out []string
	for _, n := range l {
		out = append(out, strconv.Itoa(n))
	}
	return out
}

// ReadRate returns the well-formed record of rates with a line; ErrForm if there is none.
func ReadRate(line string) (api.Rate, api.Errno) { return read(line, parseRate, WriteRate) }

// ReadSale returns the well-formed record of sales with a line; ErrForm if there is none.
func ReadSale(line string) (api.Sale, api.Errno) { return read(line, parseSale, WriteSale) }

// parser returns the record that words seem to be of. number returns the number that one of them is, and panics if it
// is none.
type parser[T any] func(words []string, number func(at int) int) T

// read returns the record that is parsed from the words of a line, and that is written so; ErrForm if there is none.
func read[T any](line string, parse parser[T], write func(T) (string, api.Errno)) (x T, e api.Errno) {
	defer func() {
		if recover() != nil {
			var none T
			x, e = none, api.ErrForm
		}
	}()
	words := strings.SplitN(line, " ", fullWords+1)
	mustBe(len(words) == fullWords || len(words) == voidWords)
	x = parse(words, func(at int) int {
		n, err := strconv.Atoi(words[at])
		if err != nil {
			panic(api.ErrForm)
		}
		return n
	})
	// Numbers can be written in several ways, of which write knows the right one; and it knows the words beside them.
	s, e := write(x)
	mustBe(e == api.OK && s == line)
	return x, api.OK
}

func mustBe(is bool) {
	if !is {
		panic(api.ErrForm)
	}
}

// parseRate is the parser of records of rates.
func parseRate(words []string, number func(at int) int) api.Rate {
	if len(words) == voidWords {
		return api.Rate{Id: number(0), Known: number(1), Of: number(3)}
	}
	goods := words[4]
	if goods == allGoods {
		goods = ""
	}
	return api.Rate{
		Id: number(0), Known: number(1), From: number(3), Goods: goods,
		Finder: api.Frac{Num: number(5), Den: number(6)}, Cart: number(7), Store: number(8),
	}
}

// parseSale is the parser of records of sales.
func parseSale(words []string, number func(at int) int) api.Sale {
	if len(words) == voidWords {
		return api.Sale{Id: number(0), Known: number(1), Of: number(3)}
	}
	return api.Sale{
		Id: number(0), Known: number(1), Hour: number(2), Parcel: number(4), Price: number(5),
		Carter: number(6), Keeper: number(7), Since: number(8),
	}
}
