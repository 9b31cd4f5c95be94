package award

import "lagan/api"

// carting returns what the carter of a sale should get.
func (p pay) carting(s api.Sale) int {
	if s.Carter == nobody {
		return 0
	}
	return p.cart
}

// storing returns what the keeper of a sale should get.
func (p pay) storing(s api.Sale) int {
	if s.Keeper == nobody {
		return 0
	}
	begun := (s.Hour - s.Since + api.StoreHours - 1) / api.StoreHours
	return p.store * begun
}

// finding returns what the finders of a sale should get.
func (p pay) finding(s api.Sale) int { return s.Price * p.finder.Num / p.finder.Den }

// division is a price that is divided step by step.
type division struct {
	rate    rate
	sale    api.Sale
	finders []int
	award   api.Award // what it is divided into so far; its Rest is what is left
	gains   account   // of the parties so far
}

// Fees returns what the carter and the keeper of a sale should get, whatever its price.
func Fees(r api.Rate, s api.Sale) (cart, store int, e api.Errno) {
	if CheckRate(r) != api.OK || CheckSale(s) != api.OK || recordOfRate(r).isVoid() || recordOfSale(s).isVoid() {
		return 0, 0, api.ErrArg
	}
	return bodyOf(r).carting(s), bodyOf(r).storing(s), api.OK
}

// Awarded returns the award of a rate and a sale.
func Awarded(r api.Rate, s api.Sale, finders []int) (api.Award, api.Errno) {
	if _, _, e := Fees(r, s); e != api.OK {
		return api.Award{}, e
	}
	if !areFinders(finders) {
		return api.Award{}, api.ErrArg
	}
	d := division{
		rate: bodyOf(r), sale: s, finders: finders,
		award: api.Award{Price: s.Price, Rest: s.Price}, gains: account{},
	}
	for _, step := range [3]func(){d.payCarter, d.payKeeper, d.payFinders} {
		step()
	}
	d.award.Shares = d.gains.shares()
	return d.award, api.OK
}

// take takes pence from what is left, or all of it if it is less.
func (d *division) take(pence int) int {
	taken := min(pence, d.award.Rest)
	d.award.Rest -= taken
	return taken
}

func (d *division) payCarter() {
	d.award.Cart = d.take(d.rate.carting(d.sale))
	d.gains.add(d.sale.Carter, d.award.Cart)
}

func (d *division) payKeeper() {
	d.award.Store = d.take(d.rate.storing(d.sale))
	d.gains.add(d.sale.Keeper, d.award.Store)
}

func (d *division) payFinders() {
	d.award.Find = d.take(d.rate.finding(d.sale))
	for i, part := range equalParts(d.award.Find, len(d.finders)) {
		d.gains.add(d.finders[i], part)
	}
}

// AwardOf returns the award of the counting sale of a parcel, and of the rate in force for goods at an hour.
func AwardOf(rates []api.Rate, sales []api.Sale, parcel int, goods string, hour, known int, finders []int) (api.Award, api.Errno) {
	if e := checkRates(rates); e != api.OK {
		return api.Award{}, e
	}
	s, e := SaleOf(sales, parcel, known)
	if e != api.OK {
		return api.Award{}, e
	}
	r, e := RateOf(rates, goods, hour, known)
	if e != api.OK {
		return api.Award{}, e
	}
	return Awarded(r, s, finders)
}
