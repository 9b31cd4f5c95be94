package award_test

import (
	"slices"
	"testing"

	"lagan/api"
)

// lists are the functions that check lists of records, and that append to them.
type lists[T comparable] struct {
	check func(l []T) (int, api.Errno)
	add   func(l []T, x T) ([]T, api.Errno)
}

// behind is a record behind a valid list, and the error with which it is refused.
type behind[T any] struct {
	what string
	x    T
	want api.Errno
}

// checkBehind checks records behind a valid list; wrong is a record that is refused whatever it is behind.
func (c lists[T]) checkBehind(t *testing.T, l []T, cases []behind[T], wrong T) {
	t.Helper()
	if i, e := c.check(l); i != 0 || e != api.OK {
		t.Fatalf("%+v: %d, error %d", l, i, e)
	}
	for _, b := range cases {
		longer := append(slices.Clone(l), b.x)
		i, e := c.check(longer)
		if e != b.want || i != len(l) && e != api.OK || i != 0 && e == api.OK {
			t.Errorf("%s: checked: %d, error %d, want %d", b.what, i, e, b.want)
		}
		m, e := c.add(l, b.x)
		if e != b.want {
			t.Errorf("%s: appended: error %d, want %d", b.what, e, b.want)
		}
		if e == api.OK {
			same(t, b.what, m, longer)
			continue
		}
		if len(m) > 0 {
			t.Errorf("%s: appended: %v", b.what, m)
		}
		if m, g := c.add(longer, wrong); g != e || len(m) > 0 {
			t.Errorf("%s: appended behind it: %v, error %d, want %d", b.what, m, g, e)
		}
		if i, g := c.check(append(longer, wrong)); i != len(l) || g != e {
			t.Errorf("%s: checked with more: %d, error %d", b.what, i, g)
		}
	}
}

// checkMost checks that lists have at most so many records; many makes some that differ enough.
func (c lists[T]) checkMost(t *testing.T, most int, many func(count int) []T) {
	t.Helper()
	if i, e := c.check(nil); i != 0 || e != api.OK {
		t.Errorf("none: %d, error %d", i, e)
	}
	if i, e := c.check(many(most)); i != 0 || e != api.OK {
		t.Errorf("%d: %d, error %d", most, i, e)
	}
	if i, e := c.check(many(most + 50)); i != most || e != api.ErrLimit {
		t.Errorf("%d: %d, error %d", most+50, i, e)
	}
	all := many(most)
	if l, e := c.add(all[:most-1], all[most-1]); len(l) != most || e != api.OK {
		t.Errorf("appended to %d: %d, error %d", most-1, len(l), e)
	}
	var wrong T
	if l, e := c.add(all, wrong); len(l) != 0 || e != api.ErrLimit {
		t.Errorf("appended to %d: %d, error %d", most, len(l), e)
	}
	twice := many(most + 1)
	twice[most-1] = twice[0]
	if i, e := c.check(twice); i != most-1 || e != api.ErrTwice {
		t.Errorf("%d, with an Id twice: %d, error %d", most+1, i, e)
	}
}
