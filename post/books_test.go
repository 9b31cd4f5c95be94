package post_test

import (
	"math"
	"slices"
	"strings"
	"testing"

	"lagan/api"
	"lagan/post"
)

// record returns a record with a short text.
func record(station, number, hour int) api.Record {
	return api.Record{Station: station, Number: number, Hour: hour, Text: "x"}
}

// lines returns the records of five stations with some lines, which need not be a book.
func lines(t testing.TB, l ...string) []api.Record {
	t.Helper()
	var out []api.Record
	for _, s := range l {
		x, e := post.ReadRecord(5, s)
		if e != api.OK {
			t.Fatalf("reading %q: error %d", s, e)
		}
		out = append(out, x)
	}
	return out
}

// same checks that slices have the same items.
func same[T comparable](t testing.TB, what string, got, want []T) {
	t.Helper()
	if !slices.Equal(got, want) {
		t.Errorf("%s: %+v, want %+v", what, got, want)
	}
}

// badCounts are numbers of stations that there are not.
func badCounts() []int { return []int{math.MinInt, -1, 0, 1, 6, math.MaxInt} }

// P8.1, H4: which records are well-formed.
func TestCheckRecord(t *testing.T) {
	good := api.Record{Station: 1, Number: 7, Hour: 3, Text: "found a bale"}
	for n := 2; n <= 5; n++ {
		does(t, "a good one", post.CheckRecord(n, good), api.OK)
		for _, change := range []func(x *api.Record){
			func(x *api.Record) { x.Station = 0 }, func(x *api.Record) { x.Station = n - 1 },
			func(x *api.Record) { x.Number = 1 }, func(x *api.Record) { x.Number = 400 },
			func(x *api.Record) { x.Hour = 0 }, func(x *api.Record) { x.Hour = 1000000 },
			func(x *api.Record) { x.Text = " " }, func(x *api.Record) { x.Text = "~" }, func(x *api.Record) { x.Text = strings.Repeat("y", 200) },
		} {
			x := good
			change(&x)
			if e := post.CheckRecord(n, x); e != api.OK {
				t.Errorf("%+v of %d: error %d", x, n, e)
			}
		}
		for _, spoil := range []func(x *api.Record){
			func(x *api.Record) { x.Station = -1 }, func(x *api.Record) { x.Station = n }, func(x *api.Record) { x.Station = math.MinInt },
			func(x *api.Record) { x.Number = 0 }, func(x *api.Record) { x.Number = 401 }, func(x *api.Record) { x.Number = -1 },
			func(x *api.Record) { x.Hour = -1 }, func(x *api.Record) { x.Hour = 1000001 },
			func(x *api.Record) { x.Text = "" }, func(x *api.Record) { x.Text = strings.Repeat("y", 201) },
			func(x *api.Record) { x.Text = "a\x1f" }, func(x *api.Record) { x.Text = "\x7fb" }, func(x *api.Record) { x.Text = "a\nb" }, func(x *api.Record) { x.Text = "é" }, func(x *api.Record) { x.Text = "a\x00" },
			func(x *api.Record) { *x = api.Record{} },
		} {
			x := good
			spoil(&x)
			does(t, "a bad one", post.CheckRecord(n, x), api.ErrArg)
			if i, e := post.CheckRecords(n, []api.Record{x}); i != 0 || e != api.ErrArg {
				t.Errorf("a list of %+v: %d, error %d", x, i, e)
			}
		}
	}
	for _, n := range badCounts() {
		does(t, "no number of stations", post.CheckRecord(n, good), api.ErrArg)
		if i, e := post.CheckRecords(n, []api.Record{record(0, 1, 1), record(0, 1, 1)}); i != 0 || e != api.ErrArg {
			t.Errorf("CheckRecords of %d: %d, error %d", n, i, e)
		}
	}
}

// P8.1, H4: which lists are books, and the first record that is refused.
func TestCheckRecords(t *testing.T) {
	for _, x := range []struct {
		l     []api.Record
		index int
		want  api.Errno
	}{
		{nil, 0, api.OK}, {[]api.Record{}, 0, api.OK},
		{[]api.Record{record(2, 1, 5)}, 0, api.OK},
		{[]api.Record{record(0, 1, 5), record(0, 2, 5), record(0, 3, 6), record(2, 1, 0), record(2, 2, 9)}, 0, api.OK},
		{[]api.Record{record(0, 2, 5)}, 0, api.ErrGap},
		{[]api.Record{record(0, 1, 5), record(0, 3, 4)}, 1, api.ErrGap},
		{[]api.Record{record(0, 1, 5), record(1, 2, 4)}, 1, api.ErrGap},
		{[]api.Record{record(0, 1, 5), record(0, 2, 4)}, 1, api.ErrTime},
		{[]api.Record{record(0, 1, 5), record(0, 2, 7), record(0, 3, 6)}, 2, api.ErrTime},
		{[]api.Record{record(0, 1, 5), record(0, 1, 5)}, 1, api.ErrTwice},
		{[]api.Record{record(0, 1, 5), record(0, 2, 5), record(0, 1, 6)}, 2, api.ErrTwice},
		{[]api.Record{record(1, 1, 5), record(0, 1, 5)}, 1, api.ErrTwice},
		{[]api.Record{record(1, 1, 5), record(0, 7, 5)}, 1, api.ErrTwice},
		{[]api.Record{record(0, 1, 5), record(1, 1, 5), record(0, 2, 5)}, 2, api.ErrTwice},
		{[]api.Record{record(0, 1, 5), {Station: 0, Number: 1, Hour: 5}}, 1, api.ErrArg},
		{[]api.Record{record(0, 1, 5), record(3, 1, 5), record(0, 1, 1)}, 1, api.ErrArg},
		{[]api.Record{record(0, 1, 5), record(0, 1, 4), record(3, 1, 5)}, 1, api.ErrTwice},
		{[]api.Record{record(0, 1, 5), record(0, 2, 4), record(0, 2, 4)}, 1, api.ErrTime},
	} {
		if i, e := post.CheckRecords(3, x.l); i != x.index || e != x.want {
			t.Errorf("%v: %d, error %d, want %d, %d", x.l, i, e, x.index, x.want)
		}
	}
	var all []api.Record
	for s := range 5 {
		for k := range 400 {
			all = append(all, record(s, k+1, 7))
		}
	}
	if i, e := post.CheckRecords(5, all); i != 0 || e != api.OK {
		t.Errorf("all records: %d, error %d", i, e)
	}
}

// P8.1, H5: the chapter's examples, and the edges.
func TestIds(t *testing.T) {
	for _, x := range []struct {
		ref api.Ref
		id  int
	}{
		{api.Ref{Station: 2, Number: 7}, 37}, {api.Ref{Station: 0, Number: 1}, 5}, {api.Ref{Station: 4, Number: 1}, 9}, {api.Ref{Station: 0, Number: 2}, 10}, {api.Ref{Station: 4, Number: 400}, 2004},
	} {
		if id := post.IdOf(x.ref); id != x.id {
			t.Errorf("IdOf(%v): %d", x.ref, id)
		}
		if ref, e := post.RefOf(x.id); ref != x.ref || e != api.OK {
			t.Errorf("RefOf(%d): %v, error %d", x.id, ref, e)
		}
	}
	for _, ref := range []api.Ref{{}, {Station: -1, Number: 7}, {Station: 5, Number: 7}, {Station: 2, Number: 0}, {Station: 2, Number: 401}, {Station: 2, Number: -1}, {Station: math.MaxInt, Number: math.MaxInt}, {Station: math.MinInt, Number: 1}} {
		if id := post.IdOf(ref); id != 0 {
			t.Errorf("IdOf(%v): %d", ref, id)
		}
	}
	for _, id := range []int{math.MinInt, -37, -5, -1, 0, 1, 4, 2005, 2006, math.MaxInt} {
		if ref, e := post.RefOf(id); ref != (api.Ref{}) || e != api.ErrArg {
			t.Errorf("RefOf(%d): %v, error %d", id, ref, e)
		}
	}
}

// P8.7: IdOf and RefOf invert each other, and Ids are different.
func TestIdsInvert(t *testing.T) {
	seen := map[int]bool{}
	for s := range 5 {
		for k := 1; k <= 400; k++ {
			ref := api.Ref{Station: s, Number: k}
			id := post.IdOf(ref)
			if back, e := post.RefOf(id); id != 5*k+s || seen[id] || back != ref || e != api.OK {
				t.Fatalf("%v: the Id %d, back %v, error %d", ref, id, back, e)
			}
			seen[id] = true
		}
	}
	for id := -10; id <= 2100; id++ {
		ref, e := post.RefOf(id)
		if (e == api.OK) != seen[id] || e == api.OK && post.IdOf(ref) != id {
			t.Fatalf("RefOf(%d): %v, error %d", id, ref, e)
		}
	}
}

// P8.1, H6: the one order is by Hour, then Station, then Number.
func TestOrder(t *testing.T) {
	l := lines(t, "0 1 3 found a bale", "0 2 9 b", "0 3 9 c", "1 1 1 found a chest", "1 2 9 sold it", "4 1 0 d", "4 2 3 e")
	got, e := post.Order(5, l)
	same(t, "Order", got, lines(t, "4 1 0 d", "1 1 1 found a chest", "0 1 3 found a bale", "4 2 3 e", "0 2 9 b", "0 3 9 c", "1 2 9 sold it"))
	does(t, "Order", e, api.OK)
	if got, e := post.Order(2, nil); len(got) > 0 || e != api.OK {
		t.Errorf("Order of nothing: %v, error %d", got, e)
	}
}

// P8.1, P8.6, H6: books that are merged.
func TestMerge(t *testing.T) {
	for _, x := range []struct {
		a, b, want []string
		e          api.Errno
	}{
		{[]string{"0 1 3 found a bale"}, []string{"1 1 1 found a chest"}, []string{"0 1 3 found a bale", "1 1 1 found a chest"}, api.OK},
		{[]string{"0 1 3 a", "1 1 1 b"}, []string{"0 1 3 a", "0 2 3 c", "2 1 7 d"}, []string{"0 1 3 a", "0 2 3 c", "1 1 1 b", "2 1 7 d"}, api.OK},
		{nil, nil, nil, api.OK},
		{[]string{"2 1 1 a"}, nil, []string{"2 1 1 a"}, api.OK},
		{[]string{"0 1 3 a"}, []string{"0 1 3 b"}, nil, api.ErrState},
		{[]string{"0 1 3 a"}, []string{"0 1 4 a"}, nil, api.ErrState},
		{[]string{"0 1 3 a", "0 2 3 b"}, []string{"0 1 3 a", "0 2 3 B", "0 3 3 c"}, nil, api.ErrState},
		{[]string{"0 1 9 a"}, []string{"0 1 3 a", "0 2 4 b"}, nil, api.ErrState},
		{[]string{"0 1 3 a", "1 1 3 x"}, []string{"0 1 3 a", "1 1 3 y"}, nil, api.ErrState},
	} {
		a, b := lines(t, x.a...), lines(t, x.b...)
		for range 2 {
			got, e := post.Merge(5, a, b)
			same(t, "Merge", got, lines(t, x.want...))
			does(t, "Merge", e, x.e)
			a, b = b, a
		}
	}
}

// P8.1, H6: the part of a book until an hour.
func TestUntil(t *testing.T) {
	l := lines(t, "0 1 3 a", "0 2 9 b", "1 1 1 c", "1 2 3 d", "1 3 4 e")
	for hour, want := range map[int][]string{
		math.MinInt: nil, -1: nil, 0: nil, 1: {"1 1 1 c"}, 2: {"1 1 1 c"}, 3: {"0 1 3 a", "1 1 1 c", "1 2 3 d"},
		8: {"0 1 3 a", "1 1 1 c", "1 2 3 d", "1 3 4 e"}, 9: {"0 1 3 a", "0 2 9 b", "1 1 1 c", "1 2 3 d", "1 3 4 e"}, math.MaxInt: {"0 1 3 a", "0 2 9 b", "1 1 1 c", "1 2 3 d", "1 3 4 e"},
	} {
		got, e := post.Until(2, l, hour)
		same(t, "Until", got, lines(t, want...))
		does(t, "Until", e, api.OK)
	}
}

// P8.1, H7: stocks, and what somebody with one lacks.
func TestStocks(t *testing.T) {
	l := lines(t, "0 1 3 a", "0 2 9 b", "2 1 1 c", "2 2 3 d", "2 3 4 e")
	if s, e := post.StockOf(3, l); s.Have != [5]int{2, 0, 3, 0, 0} || e != api.OK {
		t.Errorf("StockOf: %v, error %d", s, e)
	}
	if s, e := post.StockOf(5, nil); s != (api.Stock{}) || e != api.OK {
		t.Errorf("StockOf nothing: %v, error %d", s, e)
	}
	for _, x := range []struct {
		have [5]int
		want []string
	}{
		{[5]int{}, []string{"0 1 3 a", "0 2 9 b", "2 1 1 c", "2 2 3 d", "2 3 4 e"}},
		{[5]int{1, 7, 2, 9, 9}, []string{"0 2 9 b", "2 3 4 e"}},
		{[5]int{2, 0, 3}, nil},
		{[5]int{-5, math.MinInt, math.MaxInt}, []string{"0 1 3 a", "0 2 9 b"}},
	} {
		got, e := post.Lacks(3, l, api.Stock{Have: x.have})
		same(t, "Lacks", got, lines(t, x.want...))
		does(t, "Lacks", e, api.OK)
	}
}

// bookCalls are the functions that first return the error of CheckRecords. The first result says whether all but the error
// is zero.
func bookCalls() map[string]func(n int, l []api.Record) (bool, api.Errno) {
	return map[string]func(n int, l []api.Record) (bool, api.Errno){
		"Order": func(n int, l []api.Record) (bool, api.Errno) {
			m, e := post.Order(n, l)
			return len(m) == 0, e
		},
		"Merge, first": func(n int, l []api.Record) (bool, api.Errno) {
			m, e := post.Merge(n, l, []api.Record{record(0, 1, -1)})
			return len(m) == 0, e
		},
		"Merge, second": func(n int, l []api.Record) (bool, api.Errno) {
			m, e := post.Merge(n, []api.Record{{Station: 0, Number: 1, Hour: 5, Text: "differs"}}, l)
			return len(m) == 0, e
		},
		"Until": func(n int, l []api.Record) (bool, api.Errno) {
			m, e := post.Until(n, l, 1000)
			return len(m) == 0, e
		},
		"StockOf": func(n int, l []api.Record) (bool, api.Errno) {
			s, e := post.StockOf(n, l)
			return s == api.Stock{}, e
		},
		"Lacks": func(n int, l []api.Record) (bool, api.Errno) {
			m, e := post.Lacks(n, l, api.Stock{})
			return len(m) == 0, e
		},
	}
}

// P8.1, H6, H7: functions with a book first return the error of CheckRecords.
func TestErrorsOfBooks(t *testing.T) {
	for name, call := range bookCalls() {
		for want, l := range map[api.Errno][]api.Record{
			api.ErrArg: {record(0, 1, 5), record(3, 1, 5)}, api.ErrTwice: {record(0, 1, 5), record(0, 1, 5)},
			api.ErrGap: {record(0, 1, 5), record(0, 3, 5)}, api.ErrTime: {record(0, 1, 5), record(0, 2, 4)},
		} {
			if zero, e := call(3, l); !zero || e != want {
				t.Errorf("%s: zero %v, error %d, want %d", name, zero, e, want)
			}
		}
		for _, n := range badCounts() {
			if zero, e := call(n, nil); !zero || e != api.ErrArg {
				t.Errorf("%s of %d: zero %v, error %d", name, n, zero, e)
			}
		}
	}
}

// R3: functions with books do not change them, and results are new memory.
func TestBookMemory(t *testing.T) {
	l := lines(t, "0 1 3 a", "0 2 9 b", "1 1 1 c")
	before := slices.Clone(l)
	results := func() [][]api.Record {
		var out [][]api.Record
		add := func(l []api.Record, _ api.Errno) { out = append(out, l) }
		add(post.Order(2, l))
		add(post.Merge(2, l, nil))
		add(post.Merge(2, nil, l))
		add(post.Merge(2, l, l))
		add(post.Until(2, l, 10))
		add(post.Lacks(2, l, api.Stock{}))
		return out
	}
	for _, got := range results() {
		if len(got) != 3 {
			t.Fatalf("%d records", len(got))
		}
		clear(got)
		same(t, "the argument", l, before)
	}
}
