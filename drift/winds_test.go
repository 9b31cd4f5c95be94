package drift_test

import (
	"math/rand/v2"
	"slices"
	"testing"

	"lagan/api"
	"lagan/drift"
)

var (
	aWind = api.Wind{Id: 9, Known: 8, From: 6, Until: 7, Along: api.Range{Low: -1, High: 1}, Ashore: api.Range{Low: 0, High: 2}}
	aVoid = api.Wind{Id: 9, Known: 8, Of: 7}
)

// P2.1, B2: each field within its bounds, and nothing beside Of in a withdrawal.
func TestCheckWind(t *testing.T) {
	both, wind, void := []api.Wind{aWind, aVoid}, []api.Wind{aWind}, []api.Wind{aVoid}
	for _, c := range []struct {
		what   string
		of     []api.Wind
		change func(*api.Wind)
		want   api.Errno
	}{
		{"as it is", both, func(x *api.Wind) {}, api.OK},
		{"Id -1", both, func(x *api.Wind) { x.Id = -1 }, api.ErrArg},
		{"Id 0", both, func(x *api.Wind) { x.Id = 0 }, api.ErrArg},
		{"Id 1", both, func(x *api.Wind) { x.Id = 1 }, api.OK},
		{"Id 1000000", both, func(x *api.Wind) { x.Id = 1000000 }, api.OK},
		{"Id 1000001", both, func(x *api.Wind) { x.Id = 1000001 }, api.ErrArg},
		{"Known -1", both, func(x *api.Wind) { x.Known = -1 }, api.ErrArg},
		{"Known 0", both, func(x *api.Wind) { x.Known = 0 }, api.OK},
		{"Known 1000000", both, func(x *api.Wind) { x.Known = 1000000 }, api.OK},
		{"Known 1000001", both, func(x *api.Wind) { x.Known = 1000001 }, api.ErrArg},
		{"From -1", wind, func(x *api.Wind) { x.From = -1 }, api.ErrArg},
		{"From 0", wind, func(x *api.Wind) { x.From = 0 }, api.OK},
		{"From Until", wind, func(x *api.Wind) { x.From = 7 }, api.OK},
		{"From above Until", wind, func(x *api.Wind) { x.From = 8 }, api.ErrArg},
		{"0 to 0", wind, func(x *api.Wind) { x.From, x.Until = 0, 0 }, api.OK},
		{"Until 1000000", wind, func(x *api.Wind) { x.From, x.Until = 1000000, 1000000 }, api.OK},
		{"Until 1000001", wind, func(x *api.Wind) { x.Until = 1000001 }, api.ErrArg},
		{"Along from -3", wind, func(x *api.Wind) { x.Along.Low = -3 }, api.ErrArg},
		{"Along from -2", wind, func(x *api.Wind) { x.Along.Low = -2 }, api.OK},
		{"Along to 2", wind, func(x *api.Wind) { x.Along.High = 2 }, api.OK},
		{"Along to 3", wind, func(x *api.Wind) { x.Along.High = 3 }, api.ErrArg},
		{"Along 1 to 1", wind, func(x *api.Wind) { x.Along.Low = 1 }, api.OK},
		{"Along 2 to 1", wind, func(x *api.Wind) { x.Along.Low = 2 }, api.ErrArg},
		{"Ashore from -3", wind, func(x *api.Wind) { x.Ashore.Low = -3 }, api.ErrArg},
		{"Ashore from -2", wind, func(x *api.Wind) { x.Ashore.Low = -2 }, api.OK},
		{"Ashore -2 to -2", wind, func(x *api.Wind) { x.Ashore = api.Range{Low: -2, High: -2} }, api.OK},
		{"Ashore to 3", wind, func(x *api.Wind) { x.Ashore.High = 3 }, api.ErrArg},
		{"Ashore 2 to 1", wind, func(x *api.Wind) { x.Ashore = api.Range{Low: 2, High: 1} }, api.ErrArg},
		{"a wind of another one", wind, func(x *api.Wind) { x.Of = 1 }, api.ErrArg},
		{"Of -1", void, func(x *api.Wind) { x.Of = -1 }, api.ErrArg},
		{"Of 1", void, func(x *api.Wind) { x.Of = 1 }, api.OK},
		{"Of 1000000", void, func(x *api.Wind) { x.Of = 1000000 }, api.OK},
		{"Of 1000001", void, func(x *api.Wind) { x.Of = 1000001 }, api.ErrArg},
		{"a void with From", void, func(x *api.Wind) { x.From = -1 }, api.ErrArg},
		{"a void with Until", void, func(x *api.Wind) { x.Until = 1 }, api.ErrArg},
		{"a void with Along from", void, func(x *api.Wind) { x.Along.Low = -1 }, api.ErrArg},
		{"a void with Along to", void, func(x *api.Wind) { x.Along.High = 1 }, api.ErrArg},
		{"a void with Ashore from", void, func(x *api.Wind) { x.Ashore.Low = -1 }, api.ErrArg},
		{"a void with Ashore to", void, func(x *api.Wind) { x.Ashore.High = 1 }, api.ErrArg},
		{"nothing of a wind", both, func(x *api.Wind) { *x = api.Wind{} }, api.ErrArg},
		{"a wind that does nothing", both, func(x *api.Wind) { *x = api.Wind{Id: 1} }, api.OK},
	} {
		for _, x := range c.of {
			c.change(&x)
			if e := drift.CheckWind(x); e != c.want {
				t.Errorf("%s: %+v: error %d, want %d", c.what, x, e, c.want)
			}
			if s, e := drift.Write(x); e != c.want || (s == "") != (c.want != api.OK) {
				t.Errorf("Write, %s: %q, error %d, want %d", c.what, s, e, c.want)
			}
		}
	}
}

// P2.1, B2: the first record that is refused, and the errors in their order.
func TestCheck(t *testing.T) {
	calm := "wind 0 9 0 0 0 0"
	for _, c := range []struct {
		what  string
		lines []string
		index int
		want  api.Errno
	}{
		{"nothing", nil, 0, api.OK},
		{"Ids that descend, equal hours", []string{"3 5 " + calm, "2 5 " + calm, "1 6 void 3"}, 0, api.OK},
		{"an Id twice", []string{"3 5 " + calm, "2 5 " + calm, "3 5 " + calm}, 2, api.ErrTwice},
		{"the Id of a void twice", []string{"3 5 " + calm, "2 5 void 3", "2 5 " + calm}, 2, api.ErrTwice},
		{"a void with the Id of a wind", []string{"3 5 " + calm, "3 5 void 3"}, 1, api.ErrTwice},
		{"an earlier hour", []string{"3 5 " + calm, "2 4 " + calm}, 1, api.ErrTime},
		{"an hour earlier than that of a void", []string{"3 5 " + calm, "2 7 void 3", "1 6 " + calm}, 2, api.ErrTime},
		{"an Id twice, and earlier", []string{"3 5 " + calm, "3 4 " + calm}, 1, api.ErrTwice},
		{"a void of nothing, earlier", []string{"3 5 " + calm, "2 4 void 9"}, 1, api.ErrTime},
		{"a second void, earlier", []string{"3 5 " + calm, "2 5 void 3", "1 4 void 3"}, 2, api.ErrTime},
		{"a void of nothing", []string{"3 5 " + calm, "2 5 void 9"}, 1, api.ErrNone},
		{"a void of what is behind it", []string{"2 5 void 3", "3 5 " + calm}, 0, api.ErrNone},
		{"a void of itself", []string{"3 5 void 3"}, 0, api.ErrNone},
		{"a void of a void", []string{"3 5 " + calm, "2 5 void 3", "1 5 void 2"}, 2, api.ErrNone},
		{"a second void", []string{"3 5 " + calm, "2 5 void 3", "1 5 void 3"}, 2, api.ErrTwice},
		{"two voids", []string{"3 5 " + calm, "4 5 " + calm, "2 5 void 3", "1 5 void 4"}, 0, api.OK},
		{"two errors", []string{"3 5 " + calm, "2 5 void 9", "3 5 " + calm}, 1, api.ErrNone},
	} {
		if i, e := drift.Check(read(t, c.lines...)); i != c.index || e != c.want {
			t.Errorf("%s: %d, error %d, want %d, error %d", c.what, i, e, c.index, c.want)
		}
	}
	l := read(t, "3 5 "+calm, "3 4 "+calm)
	l[1].From = -1
	if i, e := drift.Check(l); i != 1 || e != api.ErrArg {
		t.Errorf("not as said, twice, earlier: %d, error %d", i, e)
	}
	l[0].Until = 1000001
	if i, e := drift.Check(l); i != 0 || e != api.ErrArg {
		t.Errorf("not as said at the beginning: %d, error %d", i, e)
	}
}

func manyWinds(n int) []api.Wind {
	var l []api.Wind
	for i := range n {
		x := aWind
		x.Id = 1000000 - i
		l = append(l, x)
	}
	return l
}

// P2.1, B2: 200 records and no more.
func TestCheckLimit(t *testing.T) {
	l := manyWinds(202)
	if i, e := drift.Check(l[:200]); i != 0 || e != api.OK {
		t.Errorf("200: %d, error %d", i, e)
	}
	if i, e := drift.Check(l); i != 200 || e != api.ErrLimit {
		t.Errorf("202: %d, error %d", i, e)
	}
	l[200] = api.Wind{}
	if i, e := drift.Check(l); i != 200 || e != api.ErrLimit {
		t.Errorf("202, the last ones not as said: %d, error %d", i, e)
	}
	if m, e := drift.Append(l[:199], aVoid); len(m) != 0 || e != api.ErrNone {
		t.Errorf("Append to 199: %d, error %d", len(m), e)
	}
	if m, e := drift.Append(l[:199], aWind); len(m) != 200 || e != api.OK {
		t.Errorf("Append to 199: %d, error %d", len(m), e)
	}
	if m, e := drift.Append(l[:200], api.Wind{}); len(m) != 0 || e != api.ErrLimit {
		t.Errorf("Append to 200: %d, error %d", len(m), e)
	}
	l[199] = api.Wind{}
	if i, e := drift.Check(l); i != 199 || e != api.ErrArg {
		t.Errorf("202, and one before not as said: %d, error %d", i, e)
	}
}

// P2.1, B2: the log's errors before that of the record, and new memory.
func TestAppend(t *testing.T) {
	l := read(t, "1 0 wind 0 9 0 0 0 1", "2 3 wind 2 3 0 1 1 1")
	x := read(t, "8 5 void 1")[0]
	roomy := slices.Grow(slices.Clone(l), 4)
	m, e := drift.Append(roomy, x)
	if e != api.OK || !slices.Equal(m, append(slices.Clone(l), x)) {
		t.Errorf("Append: %v, error %d", m, e)
	}
	if spare := roomy[:len(l)+1][len(l)]; spare != (api.Wind{}) {
		t.Errorf("Append wrote behind its argument: %v", spare)
	}
	m[0].Id = 77
	if !slices.Equal(roomy, l) {
		t.Error("Append returned its argument's memory")
	}
	if m, e := drift.Append(nil, aWind); e != api.OK || !slices.Equal(m, []api.Wind{aWind}) {
		t.Errorf("Append to nothing: %v, error %d", m, e)
	}
	for line, want := range map[string]api.Errno{
		"2 9 void 1": api.ErrTwice, "8 2 void 1": api.ErrTime, "8 5 void 9": api.ErrNone, "8 5 void 8": api.ErrNone, "8 3 wind 0 0 0 0 0 0": api.OK,
	} {
		if m, e := drift.Append(l, read(t, line)[0]); e != want || (len(m) == 0) != (e != api.OK) {
			t.Errorf("Append of %s: %v, error %d, want %d", line, m, e, want)
		}
	}
	bad := slices.Clone(l)
	bad[0].Known = 4
	if m, e := drift.Append(bad, api.Wind{}); len(m) != 0 || e != api.ErrTime {
		t.Errorf("Append to no log: %v, error %d", m, e)
	}
	if m, e := drift.Append(l, api.Wind{}); len(m) != 0 || e != api.ErrArg {
		t.Errorf("Append of nothing: %v, error %d", m, e)
	}
}

// P2.1, B3: what counts at an hour of knowledge.
func TestCounting(t *testing.T) {
	l := read(t, "5 0 wind 0 9 0 0 0 0", "4 2 wind 0 9 1 1 1 1", "3 4 void 5", "2 4 wind 0 9 2 2 2 2", "1 6 void 4")
	for known, want := range map[int][]int{
		-5: nil, -1: nil, 0: {5}, 1: {5}, 2: {5, 4}, 3: {5, 4}, 4: {4, 2}, 5: {4, 2}, 6: {2}, 1 << 60: {2}, -1 << 60: nil,
	} {
		winds, e := drift.Counting(l, known)
		fine(t, "Counting", e)
		var ids []int
		for _, x := range winds {
			ids = append(ids, x.Id)
		}
		same(t, "Counting", ids, want)
	}
	winds, e := drift.Counting(l, 1)
	fine(t, "Counting", e)
	same(t, "Counting", winds, l[:1])
	winds[0].Id = 77
	if l[0].Id != 5 {
		t.Error("Counting returned its argument's memory")
	}
	if winds, e := drift.Counting(append(l, l[0]), 9); len(winds) != 0 || e != api.ErrTwice {
		t.Errorf("Counting of no log: %v, error %d", winds, e)
	}
}

// P2.1, B3: the wind that stands last of those that have the hour, both ends included.
func TestWindAt(t *testing.T) {
	l := read(t, "5 0 wind 2 6 0 0 0 0", "9 1 wind 4 8 1 1 0 0", "3 2 wind 6 6 2 2 0 0", "4 3 void 9", "6 9 void 3")
	for _, c := range []struct{ known, hour, id int }{
		{-1, 4, 0}, {0, 1, 0}, {0, 2, 5}, {0, 6, 5}, {0, 7, 0}, {1, 3, 5}, {1, 4, 9}, {1, 8, 9}, {1, 9, 0},
		{2, 5, 9}, {2, 6, 3}, {2, 7, 9}, {3, 4, 5}, {3, 6, 3}, {3, 7, 0}, {8, 6, 3}, {9, 6, 5}, {9, 0, 0}, {9, 1000000, 0}, {1 << 60, 6, 5},
	} {
		x, is, e := drift.WindAt(l, c.known, c.hour)
		if x.Id != c.id || is != (c.id > 0) || e != api.OK || !is && x != (api.Wind{}) || is && !slices.Contains(l, x) {
			t.Errorf("WindAt(%d, %d): %+v, %v, error %d, want %d", c.known, c.hour, x, is, e, c.id)
		}
	}
	for _, hour := range []int{-1, 1000001, 1 << 62, -1 << 62} {
		if x, is, e := drift.WindAt(l, 0, hour); x != (api.Wind{}) || is || e != api.ErrArg {
			t.Errorf("WindAt the hour %d: %v, %v, error %d", hour, x, is, e)
		}
	}
	if x, is, e := drift.WindAt(append(l, l[0]), 0, -1); x != (api.Wind{}) || is || e != api.ErrTwice {
		t.Errorf("WindAt of no log: %v, %v, error %d", x, is, e)
	}
	m := sample(t)
	if x, is, e := drift.WindAt(m.l, 3, 2); x != m.l[1] || !is || e != api.OK {
		t.Errorf("WindAt: %v, %v, error %d", x, is, e)
	}
	if x, is, e := drift.WindAt(m.l, 3, 10); x != (api.Wind{}) || is || e != api.OK {
		t.Errorf("WindAt: %v, %v, error %d", x, is, e)
	}
}

// P2.1, B3: winds of many logs.
func TestWindsOfModel(t *testing.T) {
	r := rand.New(rand.NewPCG(2, 3))
	for range 400 {
		m := model{l: randomLog(r, 9), known: r.IntN(7) - 1}
		winds, e := drift.Counting(m.l, m.known)
		fine(t, "Counting", e)
		same(t, "Counting", winds, m.counting())
		for hour := range 12 {
			x, is, e := drift.WindAt(m.l, m.known, hour)
			if want, there := modelWind(m.l, m.known, hour); x != want || is != there || e != api.OK {
				t.Fatalf("WindAt(%v, %d, %d): %v, %v, error %d, want %v", m.l, m.known, hour, x, is, e, want)
			}
		}
	}
}
