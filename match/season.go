package match

import (
	"lagan/api"
	"lagan/cargo"
	"lagan/drift"
)

// CheckSeason returns the error of a season.
func CheckSeason(c api.Season) api.Errno {
	if e := drift.CheckSea(c.Sea); e != api.OK {
		return e
	}
	if len(c.Losses) > api.MaxLosses || len(c.Floats) > api.MaxFloats {
		return api.ErrLimit
	}
	for i, x := range c.Losses {
		if e := drift.CheckLoss(c.Sea, x); e != api.OK {
			return e
		}
		if i > 0 && c.Losses[i-1].Id >= x.Id {
			return api.ErrArg
		}
	}
	for i, x := range c.Floats {
		if !isFloat(x) || i > 0 && c.Floats[i-1].Goods >= x.Goods {
			return api.ErrArg
		}
	}
	return api.OK
}

func isFloat(x api.Float) bool {
	return isName(x.Goods) && (x.Float == api.FloatDeep || x.Float == api.FloatHigh)
}

// isName reports whether goods have a name of layer 1: it asks whether a paper may have it that is well-formed
// otherwise, so that layer 1 alone says what a name is.
func isName(goods string) bool {
	return cargo.CheckPaper(api.Paper{
		Id: 1, Kind: api.PaperPackage, Loss: 1, Pack: 1, Mark: "?", Goods: goods,
		Weight: api.Span{Low: 1, High: 1}, Pieces: 1, Owner: 1,
	}) == api.OK
}

// FloatOf returns how goods float.
func FloatOf(c api.Season, goods string) uint8 {
	for _, x := range c.Floats {
		if x.Goods == goods {
			return x.Float
		}
	}
	return api.FloatDeep
}
