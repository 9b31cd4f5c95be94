package cargo_test

import (
	"slices"
	"strings"
	"testing"

	"lagan/api"
	"lagan/cargo"
)

var (
	aPackage = api.Paper{Id: 9, Known: 8, Kind: api.PaperPackage, Loss: 7, Pack: 6, In: 5, Mark: "a?9", Goods: "oil", Weight: api.Span{Low: 4, High: 30}, Pieces: 2, Owner: 1}
	aTotal   = api.Paper{Id: 9, Known: 8, Kind: api.PaperTotal, Loss: 7, Pack: 6, Count: 5, Weight: api.Span{Low: 4, High: 30}}
	aVoid    = api.Paper{Id: 9, Known: 8, Kind: api.PaperVoid, Of: 7}
)

// P1.1, A1: each field within its bounds, and none that the Kind does not use.
func TestCheckPaper(t *testing.T) {
	long, name := strings.Repeat("a", 12), strings.Repeat("a", 24)
	for _, c := range []struct {
		what   string
		of     []api.Paper
		change func(*api.Paper)
		want   api.Errno
	}{
		{"as it is", []api.Paper{aPackage, aTotal, aVoid}, func(x *api.Paper) {}, api.OK},
		{"Id 0", []api.Paper{aPackage, aTotal, aVoid}, func(x *api.Paper) { x.Id = 0 }, api.ErrArg},
		{"Id 1", []api.Paper{aPackage, aTotal, aVoid}, func(x *api.Paper) { x.Id = 1 }, api.OK},
		{"Id 1000000", []api.Paper{aPackage, aTotal, aVoid}, func(x *api.Paper) { x.Id = 1000000 }, api.OK},
		{"Id 1000001", []api.Paper{aPackage, aTotal, aVoid}, func(x *api.Paper) { x.Id = 1000001 }, api.ErrArg},
		{"Known -1", []api.Paper{aPackage, aTotal, aVoid}, func(x *api.Paper) { x.Known = -1 }, api.ErrArg},
		{"Known 0", []api.Paper{aPackage, aTotal, aVoid}, func(x *api.Paper) { x.Known = 0 }, api.OK},
		{"Known 1000000", []api.Paper{aPackage, aTotal, aVoid}, func(x *api.Paper) { x.Known = 1000000 }, api.OK},
		{"Known 1000001", []api.Paper{aPackage, aTotal, aVoid}, func(x *api.Paper) { x.Known = 1000001 }, api.ErrArg},
		{"Kind 0", []api.Paper{aPackage, aTotal, aVoid, {Id: 9, Known: 8}}, func(x *api.Paper) { x.Kind = 0 }, api.ErrArg},
		{"Kind 4", []api.Paper{aPackage, aTotal, aVoid, {Id: 9, Known: 8}}, func(x *api.Paper) { x.Kind = 4 }, api.ErrArg},
		{"Kind 255", []api.Paper{aPackage, aTotal, aVoid}, func(x *api.Paper) { x.Kind = 255 }, api.ErrArg},
		{"Loss 0", []api.Paper{aPackage, aTotal}, func(x *api.Paper) { x.Loss = 0 }, api.ErrArg},
		{"Loss 1", []api.Paper{aPackage, aTotal}, func(x *api.Paper) { x.Loss = 1 }, api.OK},
		{"Loss 20", []api.Paper{aPackage, aTotal}, func(x *api.Paper) { x.Loss = 20 }, api.OK},
		{"Loss 21", []api.Paper{aPackage, aTotal}, func(x *api.Paper) { x.Loss = 21 }, api.ErrArg},
		{"Pack -1", []api.Paper{aPackage, aTotal}, func(x *api.Paper) { x.Pack = -1 }, api.ErrArg},
		{"Pack 0", []api.Paper{aPackage}, func(x *api.Paper) { x.Pack = 0 }, api.ErrArg},
		{"Pack 0", []api.Paper{aTotal}, func(x *api.Paper) { x.Pack = 0 }, api.OK},
		{"Pack 1", []api.Paper{aPackage, aTotal}, func(x *api.Paper) { x.Pack = 1 }, api.OK},
		{"Pack 200", []api.Paper{aPackage, aTotal}, func(x *api.Paper) { x.Pack = 200 }, api.OK},
		{"Pack 201", []api.Paper{aPackage, aTotal}, func(x *api.Paper) { x.Pack = 201 }, api.ErrArg},
		{"In -1", []api.Paper{aPackage}, func(x *api.Paper) { x.In = -1 }, api.ErrArg},
		{"In 0", []api.Paper{aPackage}, func(x *api.Paper) { x.In = 0 }, api.OK},
		{"In 200", []api.Paper{aPackage}, func(x *api.Paper) { x.In = 200 }, api.OK},
		{"In 201", []api.Paper{aPackage}, func(x *api.Paper) { x.In = 201 }, api.ErrArg},
		{"In Pack", []api.Paper{aPackage}, func(x *api.Paper) { x.In = x.Pack }, api.ErrArg},
		{"In Pack 200", []api.Paper{aPackage}, func(x *api.Paper) { x.Pack, x.In = 200, 200 }, api.ErrArg},
		{"no Mark", []api.Paper{aPackage}, func(x *api.Paper) { x.Mark = "" }, api.ErrArg},
		{"Mark of 12", []api.Paper{aPackage}, func(x *api.Paper) { x.Mark = long }, api.OK},
		{"Mark of 13", []api.Paper{aPackage}, func(x *api.Paper) { x.Mark = long + "a" }, api.ErrArg},
		{"Mark unread", []api.Paper{aPackage}, func(x *api.Paper) { x.Mark = "?" }, api.OK},
		{"Mark az09", []api.Paper{aPackage}, func(x *api.Paper) { x.Mark = "az09" }, api.OK},
		{"Mark A", []api.Paper{aPackage}, func(x *api.Paper) { x.Mark = "aA" }, api.ErrArg},
		{"Mark -", []api.Paper{aPackage}, func(x *api.Paper) { x.Mark = "a-" }, api.ErrArg},
		{"Mark with a blank", []api.Paper{aPackage}, func(x *api.Paper) { x.Mark = "a b" }, api.ErrArg},
		{"no Goods", []api.Paper{aPackage}, func(x *api.Paper) { x.Goods = "" }, api.ErrArg},
		{"Goods of 24", []api.Paper{aPackage}, func(x *api.Paper) { x.Goods = name }, api.OK},
		{"Goods of 25", []api.Paper{aPackage}, func(x *api.Paper) { x.Goods = name + "a" }, api.ErrArg},
		{"Goods a-9-", []api.Paper{aPackage}, func(x *api.Paper) { x.Goods = "a-9-" }, api.OK},
		{"Goods z0", []api.Paper{aPackage}, func(x *api.Paper) { x.Goods = "z0" }, api.OK},
		{"Goods 9a", []api.Paper{aPackage}, func(x *api.Paper) { x.Goods = "9a" }, api.ErrArg},
		{"Goods -a", []api.Paper{aPackage}, func(x *api.Paper) { x.Goods = "-a" }, api.ErrArg},
		{"Goods a?", []api.Paper{aPackage}, func(x *api.Paper) { x.Goods = "a?" }, api.ErrArg},
		{"Goods aA", []api.Paper{aPackage}, func(x *api.Paper) { x.Goods = "aA" }, api.ErrArg},
		{"Goods a_", []api.Paper{aPackage}, func(x *api.Paper) { x.Goods = "a_" }, api.ErrArg},
		{"Low -1", []api.Paper{aPackage, aTotal}, func(x *api.Paper) { x.Weight.Low = -1 }, api.ErrArg},
		{"Low 0", []api.Paper{aPackage}, func(x *api.Paper) { x.Weight.Low = 0 }, api.ErrArg},
		{"Low 0", []api.Paper{aTotal}, func(x *api.Paper) { x.Weight.Low = 0 }, api.OK},
		{"Low 1", []api.Paper{aPackage}, func(x *api.Paper) { x.Weight.Low = 1 }, api.OK},
		{"0 to 0", []api.Paper{aPackage}, func(x *api.Paper) { x.Weight = api.Span{} }, api.ErrArg},
		{"0 to 0", []api.Paper{aTotal}, func(x *api.Paper) { x.Weight = api.Span{} }, api.OK},
		{"High 100000", []api.Paper{aPackage}, func(x *api.Paper) { x.Weight.High = 100000 }, api.OK},
		{"High 100001", []api.Paper{aPackage}, func(x *api.Paper) { x.Weight.High = 100001 }, api.ErrArg},
		{"High 10000000", []api.Paper{aTotal}, func(x *api.Paper) { x.Weight.High = 10000000 }, api.OK},
		{"High 10000001", []api.Paper{aTotal}, func(x *api.Paper) { x.Weight.High = 10000001 }, api.ErrArg},
		{"Low High", []api.Paper{aPackage, aTotal}, func(x *api.Paper) { x.Weight.Low = x.Weight.High }, api.OK},
		{"Low above High", []api.Paper{aPackage, aTotal}, func(x *api.Paper) { x.Weight.Low = x.Weight.High + 1 }, api.ErrArg},
		{"Pieces 0", []api.Paper{aPackage}, func(x *api.Paper) { x.Pieces = 0 }, api.ErrArg},
		{"Pieces 1", []api.Paper{aPackage}, func(x *api.Paper) { x.Pieces = 1 }, api.OK},
		{"Pieces 20", []api.Paper{aPackage}, func(x *api.Paper) { x.Pieces = 20 }, api.OK},
		{"Pieces 21", []api.Paper{aPackage}, func(x *api.Paper) { x.Pieces = 21 }, api.ErrArg},
		{"Owner 0", []api.Paper{aPackage}, func(x *api.Paper) { x.Owner = 0 }, api.ErrArg},
		{"Owner 1", []api.Paper{aPackage}, func(x *api.Paper) { x.Owner = 1 }, api.OK},
		{"Owner 40", []api.Paper{aPackage}, func(x *api.Paper) { x.Owner = 40 }, api.OK},
		{"Owner 41", []api.Paper{aPackage}, func(x *api.Paper) { x.Owner = 41 }, api.ErrArg},
		{"Count -1", []api.Paper{aTotal}, func(x *api.Paper) { x.Count = -1 }, api.ErrArg},
		{"Count 0", []api.Paper{aTotal}, func(x *api.Paper) { x.Count = 0 }, api.OK},
		{"Count 40", []api.Paper{aTotal}, func(x *api.Paper) { x.Count = 40 }, api.OK},
		{"Count 41", []api.Paper{aTotal}, func(x *api.Paper) { x.Count = 41 }, api.ErrArg},
		{"Of 0", []api.Paper{aVoid}, func(x *api.Paper) { x.Of = 0 }, api.ErrArg},
		{"Of 1", []api.Paper{aVoid}, func(x *api.Paper) { x.Of = 1 }, api.OK},
		{"Of 1000000", []api.Paper{aVoid}, func(x *api.Paper) { x.Of = 1000000 }, api.OK},
		{"Of 1000001", []api.Paper{aVoid}, func(x *api.Paper) { x.Of = 1000001 }, api.ErrArg},
		{"not used: Loss", []api.Paper{aVoid}, func(x *api.Paper) { x.Loss = 1 }, api.ErrArg},
		{"not used: Pack", []api.Paper{aVoid}, func(x *api.Paper) { x.Pack = 1 }, api.ErrArg},
		{"not used: In", []api.Paper{aTotal, aVoid}, func(x *api.Paper) { x.In = 1 }, api.ErrArg},
		{"not used: Mark", []api.Paper{aTotal, aVoid}, func(x *api.Paper) { x.Mark = "a" }, api.ErrArg},
		{"not used: Goods", []api.Paper{aTotal, aVoid}, func(x *api.Paper) { x.Goods = "a" }, api.ErrArg},
		{"not used: Low", []api.Paper{aVoid}, func(x *api.Paper) { x.Weight.Low = -1 }, api.ErrArg},
		{"not used: High", []api.Paper{aVoid}, func(x *api.Paper) { x.Weight.High = 1 }, api.ErrArg},
		{"not used: Pieces", []api.Paper{aTotal, aVoid}, func(x *api.Paper) { x.Pieces = 1 }, api.ErrArg},
		{"not used: Owner", []api.Paper{aTotal, aVoid}, func(x *api.Paper) { x.Owner = 1 }, api.ErrArg},
		{"not used: Count", []api.Paper{aPackage, aVoid}, func(x *api.Paper) { x.Count = 1 }, api.ErrArg},
		{"not used: Of", []api.Paper{aPackage, aTotal}, func(x *api.Paper) { x.Of = 1 }, api.ErrArg},
	} {
		for _, x := range c.of {
			c.change(&x)
			if e := cargo.CheckPaper(x); e != c.want {
				t.Errorf("%s: %+v: error %d, want %d", c.what, x, e, c.want)
			}
			if s, e := cargo.Write(x); e != c.want || (s == "") != (c.want != api.OK) {
				t.Errorf("Write, %s: %q, error %d, want %d", c.what, s, e, c.want)
			}
		}
	}
}

// P1.1, A1: the first paper that is refused, and the errors in their order.
func TestCheck(t *testing.T) {
	sea := "package 1 1 0 a oil 1 1 1 1"
	for _, c := range []struct {
		what  string
		lines []string
		index int
		want  api.Errno
	}{
		{"nothing", nil, 0, api.OK},
		{"Ids that descend, equal hours", []string{"3 5 " + sea, "2 5 " + sea, "1 6 void 3"}, 0, api.OK},
		{"an Id twice", []string{"3 5 " + sea, "2 5 " + sea, "3 5 " + sea}, 2, api.ErrTwice},
		{"the Id of a void twice", []string{"3 5 " + sea, "2 5 void 3", "2 5 " + sea}, 2, api.ErrTwice},
		{"an earlier hour", []string{"3 5 " + sea, "2 4 " + sea}, 1, api.ErrTime},
		{"an hour earlier than that of a void", []string{"3 5 " + sea, "2 7 void 3", "1 6 " + sea}, 2, api.ErrTime},
		{"an Id twice, and earlier", []string{"3 5 " + sea, "3 4 " + sea}, 1, api.ErrTwice},
		{"a void of nothing, earlier", []string{"3 5 " + sea, "2 4 void 9"}, 1, api.ErrTime},
		{"a void of nothing", []string{"3 5 " + sea, "2 5 void 9"}, 1, api.ErrNone},
		{"a void of what is behind it", []string{"2 5 void 3", "3 5 " + sea}, 0, api.ErrNone},
		{"a void of itself", []string{"3 5 void 3"}, 0, api.ErrNone},
		{"a void of a void", []string{"3 5 " + sea, "2 5 void 3", "1 5 void 2"}, 2, api.ErrNone},
		{"a second void", []string{"3 5 " + sea, "2 5 void 3", "1 5 void 3"}, 2, api.ErrTwice},
		{"a second void with its Id", []string{"3 5 " + sea, "2 5 void 3", "2 5 void 3"}, 2, api.ErrTwice},
		{"a void of a total", []string{"3 5 total 1 0 1 0 0", "2 5 void 3"}, 0, api.OK},
		{"two errors", []string{"3 5 " + sea, "2 5 void 9", "3 5 " + sea}, 1, api.ErrNone},
	} {
		if i, e := cargo.Check(read(t, c.lines...)); i != c.index || e != c.want {
			t.Errorf("%s: %d, error %d, want %d, error %d", c.what, i, e, c.index, c.want)
		}
	}
	l := read(t, "3 5 "+sea, "3 4 "+sea)
	l[1].Owner = 41
	if i, e := cargo.Check(l); i != 1 || e != api.ErrArg {
		t.Errorf("not well-formed, twice, earlier: %d, error %d", i, e)
	}
	l[0].Goods = "?"
	if i, e := cargo.Check(l); i != 0 || e != api.ErrArg {
		t.Errorf("not well-formed at the beginning: %d, error %d", i, e)
	}
}

func manyPapers(n int) []api.Paper {
	var l []api.Paper
	for i := range n {
		x := aPackage
		x.Id = 1000000 - i
		l = append(l, x)
	}
	return l
}

// P1.1, A1: 300 papers and no more.
func TestCheckLimit(t *testing.T) {
	l := manyPapers(302)
	if i, e := cargo.Check(l[:300]); i != 0 || e != api.OK {
		t.Errorf("300: %d, error %d", i, e)
	}
	if i, e := cargo.Check(l); i != 300 || e != api.ErrLimit {
		t.Errorf("302: %d, error %d", i, e)
	}
	l[300] = api.Paper{}
	if i, e := cargo.Check(l); i != 300 || e != api.ErrLimit {
		t.Errorf("302, the last ones not well-formed: %d, error %d", i, e)
	}
	l[299] = api.Paper{}
	if i, e := cargo.Check(l); i != 299 || e != api.ErrArg {
		t.Errorf("302, and one before not well-formed: %d, error %d", i, e)
	}
	if m, e := cargo.Append(l[:299], aVoid); len(m) != 0 || e != api.ErrNone {
		t.Errorf("Append to 299: %d, error %d", len(m), e)
	}
	x := aPackage
	if m, e := cargo.Append(l[:299], x); len(m) != 300 || e != api.OK {
		t.Errorf("Append to 299: %d, error %d", len(m), e)
	}
	l[299] = x
	x.Id = 0
	if m, e := cargo.Append(l[:300], x); len(m) != 0 || e != api.ErrLimit {
		t.Errorf("Append to 300: %d, error %d", len(m), e)
	}
}

// P1.1, A1: the file's errors before that of the paper, and new memory.
func TestAppend(t *testing.T) {
	l := sample(t)
	x := read(t, "8 5 void 1")[0]
	roomy := slices.Grow(slices.Clone(l), 4)
	m, e := cargo.Append(roomy, x)
	if e != api.OK || !slices.Equal(m, append(slices.Clone(l), x)) {
		t.Errorf("Append: %v, error %d", m, e)
	}
	if spare := roomy[:len(l)+1][len(l)]; spare != (api.Paper{}) {
		t.Errorf("Append wrote behind its argument: %v", spare)
	}
	m[0].Id = 77
	if !slices.Equal(roomy, l) {
		t.Error("Append returned its argument's memory")
	}
	if m, e := cargo.Append(nil, aTotal); e != api.OK || !slices.Equal(m, []api.Paper{aTotal}) {
		t.Errorf("Append to nothing: %v, error %d", m, e)
	}
	for line, want := range map[string]api.Errno{
		"7 9 void 1": api.ErrTwice, "8 4 void 1": api.ErrTime, "8 5 void 9": api.ErrNone,
		"8 5 void 8": api.ErrNone, "8 5 package 2 1 9 a b 1 1 1 1": api.OK,
	} {
		if m, e := cargo.Append(l, read(t, line)[0]); e != want || (len(m) == 0) != (e != api.OK) {
			t.Errorf("Append of %s: %v, error %d, want %d", line, m, e, want)
		}
	}
	bad := slices.Clone(l)
	bad[6].Known = 0
	if m, e := cargo.Append(bad, api.Paper{}); len(m) != 0 || e != api.ErrTime {
		t.Errorf("Append to no file: %v, error %d", m, e)
	}
	if m, e := cargo.Append(l, api.Paper{}); len(m) != 0 || e != api.ErrArg {
		t.Errorf("Append of nothing: %v, error %d", m, e)
	}
}

// P1.1, A1: what counts at an hour of knowledge.
func TestCounting(t *testing.T) {
	l := file(t, "5 0 package 1 1 0 a oil 1 1 1 1", "4 2 total 1 0 1 0 9", "3 4 void 5", "2 4 package 2 1 0 a oil 1 1 1 1", "1 6 void 4")
	for known, want := range map[int][]int{
		-5: nil, -1: nil, 0: {5}, 1: {5}, 2: {5, 4}, 3: {5, 4}, 4: {4, 2}, 5: {4, 2}, 6: {2}, 1 << 60: {2}, -1 << 60: nil,
	} {
		var ids []int
		for _, x := range cargo.Counting(l, known) {
			ids = append(ids, x.Id)
		}
		same(t, "Counting", ids, want)
	}
	same(t, "Counting", cargo.Counting(l, 1), l[:1])
	if got := cargo.Counting(append(l, l[0]), 9); len(got) != 0 {
		t.Errorf("Counting of no file: %v", got)
	}
	got := cargo.Counting(l, 2)
	got[0].Id = 77
	if l[0].Id != 5 {
		t.Error("Counting returned its argument's memory")
	}
}
