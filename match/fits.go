package match

import (
	"slices"

	"lagan/api"
	"lagan/cargo"
	"lagan/drift"
	"lagan/find"
)

// scene is what a season, winds, papers and reports say at an hour of knowledge.
type scene struct {
	season  api.Season
	winds   []api.Wind
	papers  []api.Paper
	reports []api.Report
	known   int
	beaches map[landing][]int // the cells, as far as they were asked for
}

// landing is that a package of a loss, floating in some way, is on a beach at an hour.
type landing struct {
	loss  int
	float uint8
	hour  int
}

// leaf is a package of a slot: its paper, which has its ends as Weight if it has some, and its loss.
type leaf struct {
	api.Paper
	of api.Loss
}

func (p leaf) slot() api.Slot { return api.Slot{Loss: p.Loss, Pack: p.Pack, Pieces: p.Pieces} }

// sceneOf returns the scene of what a season, winds, papers and reports say, if all of them are as said.
func sceneOf(c api.Season, winds []api.Wind, papers []api.Paper, reports []api.Report, known int) (*scene, api.Errno) {
	if e := CheckSeason(c); e != api.OK {
		return nil, e
	}
	if _, e := drift.Check(winds); e != api.OK {
		return nil, e
	}
	if _, e := cargo.Check(papers); e != api.OK {
		return nil, e
	}
	if _, e := find.Check(reports); e != api.OK {
		return nil, e
	}
	return &scene{c, winds, papers, reports, known, map[landing][]int{}}, api.OK
}

// finds returns the numbers of all finds, ascending.
func (s *scene) finds() []int {
	// The reports were checked, and Finds returns no other error.
	ids, _ := find.Finds(s.reports, s.known)
	return ids
}

// found returns the parcel of a find, with the least that it weighs as Low of its Weight.
func (s *scene) found(id int) api.Parcel {
	p, _ := find.ParcelOf(s.reports, s.known, id)
	if low, _, e := find.Weight(s.reports, s.known, id); e == api.OK {
		p.Weight.Low = low
	}
	return p
}

// leaves returns the packages of the slots of a loss, by ascending Packs.
func (s *scene) leaves(x api.Loss) []leaf {
	papers, e := cargo.Weights(s.papers, s.known, x.Id)
	if e != api.OK {
		papers = cargo.Packages(s.papers, s.known, x.Id)
	}
	packs := cargo.Leaves(s.papers, s.known, x.Id)
	var out []leaf
	for _, p := range papers {
		if slices.Contains(packs, p.Pack) {
			out = append(out, leaf{p, x})
		}
	}
	return out
}

// allLeaves returns the packages of all slots, in their order.
func (s *scene) allLeaves() []leaf {
	var out []leaf
	for _, x := range s.season.Losses {
		out = append(out, s.leaves(x)...)
	}
	return out
}

// leafOf returns the package of a slot, and whether there is such a slot.
func (s *scene) leafOf(loss, pack int) (leaf, bool) {
	for _, x := range s.season.Losses {
		if x.Id != loss {
			continue
		}
		leaves := s.leaves(x)
		if i := slices.IndexFunc(leaves, func(p leaf) bool { return p.Pack == pack }); i >= 0 {
			return leaves[i], true
		}
	}
	return leaf{}, false
}

// reasons returns, for each reason why a find does not fit a slot, what finds out whether it is one.
func (s *scene) reasons() [api.WhyDrift + 1]func(f api.Parcel, p leaf) bool {
	return [api.WhyDrift + 1]func(f api.Parcel, p leaf) bool{
		api.WhyGoods:  func(f api.Parcel, p leaf) bool { return f.Goods != p.Goods },
		api.WhyMark:   func(f api.Parcel, p leaf) bool { return !cargo.Meet(f.Mark, p.Mark) },
		api.WhyWeight: func(f api.Parcel, p leaf) bool { return f.Weight.Low > p.Weight.High },
		api.WhyDrift:  s.isAway,
	}
}

// why returns the first reason why a find does not fit a slot.
func (s *scene) why(f api.Parcel, p leaf) uint8 {
	reasons := s.reasons()
	for why := api.WhyGoods; why <= api.WhyDrift; why++ {
		if reasons[why](f, p) {
			return why
		}
	}
	return api.FitYes
}

// isAway reports whether a package with the goods of a find cannot be where and when this was found.
func (s *scene) isAway(f api.Parcel, p leaf) bool {
	first := p.of.Hours.Low
	switch {
	case f.Cell >= s.season.Sea.Cells || f.Hour < first:
		return true
	case f.Hour > first+api.MaxDrift:
		return false
	}
	return !slices.Contains(s.beachesOf(p.of, FloatOf(s.season, f.Goods), f.Hour), f.Cell)
}

// beachesOf returns the cells on whose beaches a package of a loss can be at an hour. Many finds and packages ask
// for the same ones, and it is long to seek them.
func (s *scene) beachesOf(x api.Loss, float uint8, hour int) []int {
	asked := landing{x.Id, float, hour}
	cells, is := s.beaches[asked]
	if !is {
		// All that is asked was checked, so that Beaches returns no error.
		cells, _ = drift.Beaches(s.season.Sea, s.winds, s.known, x, float, hour)
		s.beaches[asked] = cells
	}
	return cells
}

// Why returns why a find does not fit a slot, and FitYes if it does.
func Why(c api.Season, winds []api.Wind, papers []api.Paper, reports []api.Report, known, parcel, loss, pack int) (uint8, api.Errno) {
	s, e := sceneOf(c, winds, papers, reports, known)
	if e != api.OK {
		return 0, e
	}
	p, is := s.leafOf(loss, pack)
	if !is || !slices.Contains(s.finds(), parcel) {
		return 0, api.ErrNone
	}
	return s.why(s.found(parcel), p), api.OK
}

// Build returns the board of all finds and slots.
func Build(c api.Season, winds []api.Wind, papers []api.Paper, reports []api.Report, known int) (api.Board, api.Errno) {
	s, e := sceneOf(c, winds, papers, reports, known)
	if e != api.OK {
		return api.Board{}, e
	}
	finds, leaves := s.finds(), s.allLeaves()
	if len(finds) > api.MaxFinds || len(leaves) > api.MaxSlots {
		return api.Board{}, api.ErrLimit
	}
	return api.Board{
		Finds: finds,
		Slots: each(leaves, leaf.slot),
		Fits: each(finds, func(id int) []int {
			f := s.found(id)
			var fits []int
			for i, p := range leaves {
				if s.why(f, p) == api.FitYes {
					fits = append(fits, i)
				}
			}
			return fits
		}),
	}, api.OK
}
