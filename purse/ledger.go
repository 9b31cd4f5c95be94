package purse

import (
	"cmp"
	"maps"
	"slices"

	"lagan/api"
)

// account is the one that a party has for a parcel.
type account struct{ party, parcel int }

func accountOf(p api.Posting) account { return account{party: p.Party, parcel: p.Parcel} }

func compareAccounts(a, b account) int {
	return cmp.Or(cmp.Compare(a.parcel, b.parcel), cmp.Compare(a.party, b.party))
}

// ledger is what the postings of a book come to.
type ledger struct {
	ids     map[int]bool    // of all postings
	highest int             // of the Ids; 0 if there are none
	hour    int             // of the last posting; 0 if there is none
	sold    map[int]int     // what parcels were sold for, by parcels
	held    map[int]int     // what is held for them, by parcels
	has     map[account]int // what parties have
	known   map[account]int // the Known of the last PostPay
}

// ledgerOf returns the ledger of a book; otherwise the index of the first posting that is refused, and its error.
func ledgerOf(l []api.Posting) (g *ledger, index int, e api.Errno) {
	g = &ledger{
		ids: map[int]bool{}, sold: map[int]int{}, held: map[int]int{},
		has: map[account]int{}, known: map[account]int{},
	}
	e = attempt(func() {
		for i, p := range l {
			index = i
			g.enter(p)
		}
	})
	if e != api.OK {
		return nil, index, e
	}
	return g, 0, api.OK
}

// attempt does something, and returns the error of what is refused by it.
func attempt(do func()) (e api.Errno) {
	defer func() {
		if refused := recover(); refused != nil {
			e = refused.(api.Errno)
		}
	}()
	do()
	return api.OK
}

// require refuses, with an error, what is not as it has to be.
func require(is bool, e api.Errno) {
	if !is {
		panic(e)
	}
}

// enter enters a posting, or refuses it.
func (g *ledger) enter(p api.Posting) {
	require(len(g.ids) < api.MaxPostings, api.ErrLimit)
	require(CheckPosting(p) == api.OK, api.ErrArg)
	require(!g.ids[p.Id], api.ErrTwice)
	require(p.Hour >= g.hour, api.ErrTime)
	kinds := [...]func(account, *ledger, api.Posting){
		api.PostSale: account.sell,
		api.PostPay:  account.pay,
		api.PostBack: account.payBack,
	}
	kinds[p.Kind](accountOf(p), g, p)
	g.ids[p.Id] = true
	g.highest = max(g.highest, p.Id)
	g.hour = p.Hour
}

// isSold reports whether a parcel was sold. Nothing is sold for 0.
func (g *ledger) isSold(parcel int) bool { return g.sold[parcel] > 0 }

func (a account) sell(g *ledger, p api.Posting) {
	require(!g.isSold(a.parcel), api.ErrTwice)
	g.sold[a.parcel] = p.Amount
	g.held[a.parcel] = p.Amount
}

func (a account) pay(g *ledger, p api.Posting) {
	require(g.isSold(a.parcel), api.ErrNone)
	require(p.Amount <= g.held[a.parcel], api.ErrPoor)
	g.held[a.parcel] -= p.Amount
	g.has[a] += p.Amount
	g.known[a] = p.Known
}

func (a account) payBack(g *ledger, p api.Posting) {
	require(g.isSold(a.parcel), api.ErrNone)
	require(p.Amount <= g.has[a], api.ErrPoor)
	require(p.Known > g.known[a], api.ErrReason)
	g.has[a] -= p.Amount
	g.held[a.parcel] += p.Amount
}

// holdings returns what each party has for each parcel, if it is more than 0, by ascending parcels, then parties.
func (g *ledger) holdings() []api.Due {
	var out []api.Due
	for _, a := range slices.SortedFunc(maps.Keys(g.has), compareAccounts) {
		if g.has[a] > 0 {
			out = append(out, api.Due{Party: a.party, Parcel: a.parcel, Amount: g.has[a]})
		}
	}
	return out
}
