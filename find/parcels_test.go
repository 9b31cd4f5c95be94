package find_test

import (
	"math"
	"math/rand/v2"
	"reflect"
	"slices"
	"testing"

	"lagan/api"
	"lagan/find"
)

// P3.1, C3, C4: the examples of the chapter.
func TestExampleParcels(t *testing.T) {
	l := sample(t)
	if ids, e := find.Finds(l, 9); !slices.Equal(ids, []int{10, 20}) || e != api.OK {
		t.Errorf("Finds: %v, error %d", ids, e)
	}
	for _, c := range []struct {
		hour int
		ids  []int
	}{{8, []int{20, 30, 31}}, {10, []int{30, 40}}, {1, nil}, {2, []int{10}}, {3, []int{10, 20}}, {7, []int{10, 20}}, {9, []int{20, 30, 31}},
		{math.MinInt, nil}, {math.MaxInt, []int{30, 40}}} {
		if ids, e := find.Present(l, 20, c.hour); !slices.Equal(ids, c.ids) || e != api.OK {
			t.Errorf("Present at %d: %v, error %d, want %v", c.hour, ids, e, c.ids)
		}
	}
	if ids, e := find.Present(l, 8, 20); !slices.Equal(ids, []int{10, 20}) || e != api.OK {
		t.Errorf("Present, before the division is known: %v, error %d", ids, e)
	}
	want := []api.Parcel{
		{Id: 10, From: 1, Into: 3, Mark: "ab?", Goods: "oil", Weight: api.Span{Low: 40, High: 60}, Finder: 3, Cell: 7, Hour: 2, Found: true},
		{Id: 20, From: 2, Into: 4, Mark: "abc", Goods: "oil", Weight: api.Span{Low: 10, High: 20}, Finder: 4, Cell: 8, Hour: 3, Found: true},
		{Id: 30, From: 3, Mark: "ab?", Goods: "oil", Weight: api.Span{Low: 30, High: 30}, Hour: 8},
		{Id: 31, From: 3, Into: 4, Mark: "ab?", Goods: "oil", Weight: api.Span{Low: 1, High: 100000000}, Hour: 8},
		{Id: 40, From: 4, Goods: "oil", Weight: api.Span{Low: 35, High: 45}, Hour: 10},
	}
	if parcels, e := find.Parcels(l, 20); !slices.Equal(parcels, want) || e != api.OK {
		t.Errorf("Parcels: %+v, error %d", parcels, e)
	}
	for _, p := range want {
		if got, e := find.ParcelOf(l, 20, p.Id); got != p || e != api.OK {
			t.Errorf("ParcelOf: %+v, error %d, want %+v", got, e, p)
		}
	}
}

// P3.1, C3: goods and marks of what is divided and joined, what is hidden, and what is said of things that are one.
func TestLooks(t *testing.T) {
	l := read(t, "1 5 1 found 1 ab? oil 10 90 1", "2 5 2 found 2 ab? oil 20 80 2", "3 5 3 found 3 abc wool 30 70 3", "4 5 4 found 4 abc mixed 1 9 4",
		"5 5 5 found 5 x oil 40 60 5", "6 5 5 found 6 xy oil 35 55 6", "7 5 5 found 7 xyz oil 50 99 7",
		"11 6 6 joined 10 20",       // same goods, same marks
		"12 6 6 joined 30 40",       // other goods, same marks
		"13 6 6 divided 120 2",      // mixed
		"14 6 6 joined 110 131",     // other marks
		"15 6 6 divided 140 3",      // no marks
		"16 6 6 joined 150 152 151", // the same, and no marks
		"17 7 7 same 60 50", "18 7 7 hidden 130 1", "19 8 8 same 70 60", "20 8 8 weighed 70 52 53", "21 9 9 hidden 160 1", "22 9 9 shown 160 2",
		"23 9 9 divided 160 2", "24 9 9 hidden 230 1")
	for _, c := range []struct {
		known int
		want  api.Parcel
	}{
		{9, api.Parcel{Id: 110, From: 11, Into: 14, Goods: "oil", Mark: "ab?", Weight: api.Span{Low: 1, High: 100000000}, Hour: 6}},
		{9, api.Parcel{Id: 120, From: 12, Into: 13, Goods: "mixed", Mark: "abc", Weight: api.Span{Low: 1, High: 100000000}, Hour: 6}},
		{7, api.Parcel{Id: 130, From: 13, Goods: "mixed", Mark: "abc", Weight: api.Span{Low: 1, High: 100000000}, Hour: 6, Hidden: true}},
		{6, api.Parcel{Id: 130, From: 13, Goods: "mixed", Mark: "abc", Weight: api.Span{Low: 1, High: 100000000}, Hour: 6}},
		{9, api.Parcel{Id: 140, From: 14, Into: 15, Goods: "mixed", Weight: api.Span{Low: 1, High: 100000000}, Hour: 6}},
		{9, api.Parcel{Id: 152, From: 15, Into: 16, Goods: "mixed", Weight: api.Span{Low: 1, High: 100000000}, Hour: 6}},
		{9, api.Parcel{Id: 160, From: 16, Into: 23, Goods: "mixed", Weight: api.Span{Low: 1, High: 100000000}, Hour: 6}},
		{9, api.Parcel{Id: 230, From: 23, Goods: "mixed", Weight: api.Span{Low: 1, High: 100000000}, Hour: 9, Hidden: true}},
		{6, api.Parcel{Id: 60, From: 6, Goods: "oil", Mark: "xy", Weight: api.Span{Low: 35, High: 55}, Hour: 5, Found: true, Cell: 6, Finder: 6}},
		{7, api.Parcel{Id: 60, From: 6, Goods: "oil", Mark: "xy", Weight: api.Span{Low: 40, High: 55}, Hour: 5, Found: true, Cell: 6, Finder: 6}},
		{7, api.Parcel{Id: 70, From: 7, Goods: "oil", Mark: "xyz", Weight: api.Span{Low: 50, High: 99}, Hour: 5, Found: true, Cell: 7, Finder: 7}},
		{8, api.Parcel{Id: 70, From: 7, Goods: "oil", Mark: "xyz", Weight: api.Span{Low: 52, High: 53}, Hour: 5, Found: true, Cell: 7, Finder: 7}},
	} {
		if p, e := find.ParcelOf(l, c.known, c.want.Id); p != c.want || e != api.OK {
			t.Errorf("ParcelOf at %d: %+v, error %d, want %+v", c.known, p, e, c.want)
		}
	}
	for _, c := range []struct{ known, parcel int }{{7, 50}, {8, 60}, {8, 50}, {5, 110}, {4, 10}, {9, 1}, {9, 0}, {9, 153}, {9, 170}, {9, math.MaxInt}, {9, -10}} {
		if p, e := find.ParcelOf(l, c.known, c.parcel); p != (api.Parcel{}) || e != api.ErrParcel {
			t.Errorf("ParcelOf %d at %d: %+v, error %d", c.parcel, c.known, p, e)
		}
	}
	// Low may become greater than High.
	torn := with(t, l, "30 10 10 weighed 70 8 9", "31 10 10 weighed 70 2 3")
	if p, e := find.ParcelOf(torn, 10, 70); p.Weight != (api.Span{Low: 52, High: 3}) || e != api.OK {
		t.Errorf("ParcelOf of a torn one: %+v, error %d", p, e)
	}
}

// P3.1, C3, C4, and P3.8: parcels are those of the model, and nothing depends on what is known later.
func TestRandomParcels(t *testing.T) {
	t.Parallel()
	r := rand.New(rand.NewPCG(3, 3))
	for range 40 {
		l := newWriter(r, 9, 0.3).list(30)
		for _, known := range hours(l) {
			want := modelParcels(modelCounting(l, known))
			parcels, e := find.Parcels(l, known)
			if !slices.Equal(parcels, want) || e != api.OK {
				t.Fatalf("Parcels at %d of %+v: %+v, error %d, want %+v", known, l, parcels, e, want)
			}
			checkPresent(t, l, known, want)
			var finds []int
			for _, p := range want {
				if p.Found {
					finds = append(finds, p.Id)
				}
				if got, e := find.ParcelOf(l, known, p.Id); got != p || e != api.OK {
					t.Fatalf("ParcelOf: %+v, error %d", got, e)
				}
			}
			if ids, e := find.Finds(l, known); !slices.Equal(ids, finds) || e != api.OK {
				t.Fatalf("Finds at %d: %v, error %d, want %v", known, ids, e, finds)
			}
			early := slices.DeleteFunc(slices.Clone(l), func(x api.Report) bool { return x.Known > known })
			if again, e := find.Parcels(early, known); !reflect.DeepEqual(again, parcels) || e != api.OK {
				t.Fatalf("Parcels at %d without what is known later: %+v, error %d, want %+v", known, again, e, parcels)
			}
		}
	}
}

// checkPresent holds Present against the parcels at an hour of knowledge.
func checkPresent(t *testing.T, l []api.Report, known int, parcels []api.Parcel) {
	t.Helper()
	for hour := -1; hour < 40; hour += 4 {
		var want []int
		for _, p := range parcels {
			gone := slices.ContainsFunc(l, func(x api.Report) bool { return x.Id == p.Into && x.Hour <= hour })
			if p.Hour <= hour && !gone {
				want = append(want, p.Id)
			}
		}
		if ids, e := find.Present(l, known, hour); !slices.Equal(ids, want) || e != api.OK {
			t.Fatalf("Present at %d, %d of %+v: %v, error %d, want %v", known, hour, l, ids, e, want)
		}
	}
}
