package post_test

import (
	"bytes"
	"math"
	"math/rand/v2"
	"testing"

	"lagan/api"
	"lagan/post"
)

// newDisk returns a disk with a number of sectors.
func newDisk(t testing.TB, sectors int) *post.Disk {
	t.Helper()
	d, e := post.NewDisk(sectors)
	if e != api.OK || d == nil {
		t.Fatalf("NewDisk(%d): error %d", sectors, e)
	}
	return d
}

// reads checks that the first bytes of a sector are those of a text, and the others zeros.
func reads(t testing.TB, d *post.Disk, sector int, want string) {
	t.Helper()
	b, e := d.Read(sector)
	if e != api.OK || len(b) != 64 || string(b) != want+string(make([]byte, 64-len(want))) {
		t.Errorf("sector %d: %q, error %d, want %q", sector, b, e, want)
	}
}

// does checks that something returned an error, or OK.
func does(t testing.TB, what string, got, want api.Errno) {
	t.Helper()
	if got != want {
		t.Errorf("%s: error %d, want %d", what, got, want)
	}
}

// P8.1, H1: disks have from 64 to 65536 sectors, all zero at first.
func TestNewDisk(t *testing.T) {
	for _, n := range []int{math.MinInt, -1, 0, 1, 63, 65537, math.MaxInt} {
		if d, e := post.NewDisk(n); d != nil || e != api.ErrArg {
			t.Errorf("NewDisk(%d): error %d", n, e)
		}
	}
	for _, n := range []int{64, 65, 65536} {
		d := newDisk(t, n)
		for i := range n {
			reads(t, d, i, "")
		}
		for _, i := range []int{math.MinInt, -1, n, n + 1, math.MaxInt} {
			if b, e := d.Read(i); len(b) > 0 || e != api.ErrArg {
				t.Errorf("Read(%d) of %d sectors: %d bytes, error %d", i, n, len(b), e)
			}
			does(t, "Write", d.Write(i, nil), api.ErrArg)
		}
		does(t, "the last sector", d.Write(n-1, []byte("end")), api.OK)
		reads(t, d, n-1, "end")
		if d.Down() {
			t.Errorf("a new disk is down")
		}
	}
}

// P8.1, H1 to H3: the chapter's example.
func TestDiskExample(t *testing.T) {
	d := newDisk(t, 64)
	does(t, "Write", d.Write(0, []byte("abc")), api.OK)
	does(t, "Flush", d.Flush(), api.OK)
	does(t, "Write", d.Write(0, []byte("xyz")), api.OK)
	d.Crash([]int{1})
	reads(t, d, 0, "xbc")
}

// P8.1, H1, H2: a write replaces the whole sector, and is read at once.
func TestWrite(t *testing.T) {
	d := newDisk(t, 64)
	full := bytes.Repeat([]byte("f"), 64)
	does(t, "64 bytes", d.Write(3, full), api.OK)
	reads(t, d, 3, string(full))
	does(t, "2 bytes", d.Write(3, []byte("ab")), api.OK)
	reads(t, d, 3, "ab")
	reads(t, d, 2, "")
	reads(t, d, 4, "")
	does(t, "65 bytes", d.Write(3, append(full, 'f')), api.ErrLimit)
	does(t, "no sector, and 65 bytes", d.Write(64, append(full, 'f')), api.ErrArg)
	reads(t, d, 3, "ab")
	does(t, "no bytes", d.Write(3, nil), api.OK)
	reads(t, d, 3, "")
}

// R3, H1, H2: a disk shares no memory with others.
func TestDiskMemory(t *testing.T) {
	d := newDisk(t, 64)
	b := []byte("abc")
	does(t, "Write", d.Write(5, b), api.OK)
	b[0] = 'x'
	reads(t, d, 5, "abc")
	got, _ := d.Read(5)
	clear(got)
	reads(t, d, 5, "abc")
	keep := []int{64}
	d.Crash(keep)
	reads(t, d, 5, "abc")
	if keep[0] != 64 {
		t.Errorf("the keeps were changed: %v", keep)
	}
}

// P8.1, H3: of pending writes only the first bytes happen, in their order.
func TestCrash(t *testing.T) {
	for _, x := range []struct {
		keep []int
		want string
	}{
		{nil, "abcdef"}, {[]int{}, "abcdef"}, {[]int{0, 0, 0}, "abcdef"}, {[]int{-1, math.MinInt, -64}, "abcdef"},
		{[]int{2}, "ABcdef"}, {[]int{64}, "ABCD"}, {[]int{65}, "ABCD"}, {[]int{math.MaxInt}, "ABCD"},
		{[]int{5}, "ABCD\x00f"}, {[]int{0, 0, 1}, "1bcdef"}, {[]int{2, 64, 1}, "1Bcdef"}, {[]int{64, 64, 64}, "12"},
		{[]int{4, 0, 2, 9, 9}, "12CDef"}, {[]int{3, 0, 3}, "12\x00def"},
	} {
		d := newDisk(t, 64)
		does(t, "Write", d.Write(7, []byte("abcdef")), api.OK)
		does(t, "Flush", d.Flush(), api.OK)
		does(t, "Write", d.Write(7, []byte("ABCD")), api.OK)
		does(t, "another sector", d.Write(8, []byte("other")), api.OK)
		does(t, "Write", d.Write(7, []byte("12")), api.OK)
		d.Crash(x.keep)
		reads(t, d, 7, x.want)
		// Nothing is pending any more.
		d.Crash([]int{64, 64, 64})
		reads(t, d, 7, x.want)
	}
}

// P8.2: what was flushed is not changed by a crash.
func TestFlush(t *testing.T) {
	d := newDisk(t, 64)
	for i, s := range []string{"one", "two", "three"} {
		does(t, "Write", d.Write(i, []byte(s)), api.OK)
	}
	does(t, "Flush", d.Flush(), api.OK)
	does(t, "Write", d.Write(1, []byte("TWO")), api.OK)
	d.Crash(nil)
	reads(t, d, 0, "one")
	reads(t, d, 1, "two")
	reads(t, d, 2, "three")
	does(t, "a Flush of nothing", d.Flush(), api.OK)
}

// P8.1, H2, H3: the power lasts for a number of calls of Write and Flush that do not return an error before.
func TestStop(t *testing.T) {
	for calls := range 6 {
		d := newDisk(t, 64)
		does(t, "Stop", d.Stop(calls), api.OK)
		for i := range calls {
			// None of these uses up power.
			does(t, "no sector", d.Write(64, nil), api.ErrArg)
			does(t, "65 bytes", d.Write(0, make([]byte, 65)), api.ErrLimit)
			reads(t, d, 63, "")
			if i%2 == 0 {
				does(t, "Write", d.Write(0, []byte{byte('a' + i)}), api.OK)
			} else {
				does(t, "Flush", d.Flush(), api.OK)
			}
		}
		if d.Down() {
			t.Errorf("down after %d calls", calls)
		}
		does(t, "65 bytes", d.Write(0, make([]byte, 65)), api.ErrLimit)
		if calls%2 == 0 {
			does(t, "Write without power", d.Write(0, []byte("no")), api.ErrDown)
		} else {
			does(t, "Flush without power", d.Flush(), api.ErrDown)
		}
		checkDown(t, d)
		d.Crash([]int{64})
		if d.Down() {
			t.Errorf("down behind a crash")
		}
		reads(t, d, 0, []string{"", "a", "a", "c", "c", "e"}[calls])
		for range 100 {
			does(t, "Flush with lasting power", d.Flush(), api.OK)
		}
	}
}

// checkDown checks that all calls but Crash return ErrDown.
func checkDown(t *testing.T, d *post.Disk) {
	t.Helper()
	if !d.Down() {
		t.Errorf("the disk is not down")
	}
	for _, i := range []int{0, -1} {
		if b, e := d.Read(i); len(b) > 0 || e != api.ErrDown {
			t.Errorf("Read(%d): %d bytes, error %d", i, len(b), e)
		}
		does(t, "Write", d.Write(i, make([]byte, 65)), api.ErrDown)
		does(t, "Stop", d.Stop(i), api.ErrDown)
	}
	does(t, "Write", d.Write(0, nil), api.ErrDown)
	does(t, "Flush", d.Flush(), api.ErrDown)
}

// P8.1, H3: a later Stop replaces an earlier one, and a crash ends it.
func TestStopAgain(t *testing.T) {
	d := newDisk(t, 64)
	does(t, "Stop", d.Stop(0), api.OK)
	does(t, "a negative number", d.Stop(-1), api.ErrArg)
	does(t, "Stop", d.Stop(2), api.OK)
	does(t, "Flush", d.Flush(), api.OK)
	does(t, "Stop", d.Stop(1), api.OK)
	does(t, "Flush", d.Flush(), api.OK)
	does(t, "Flush", d.Flush(), api.ErrDown)
	d.Crash(nil)
	does(t, "Stop", d.Stop(0), api.OK)
	d.Crash(nil)
	does(t, "Flush", d.Flush(), api.OK)
	does(t, "Stop", d.Stop(math.MaxInt), api.OK)
	does(t, "Flush", d.Flush(), api.OK)
}

// P8.1, R5: methods of a nil disk.
func TestNilDisk(t *testing.T) {
	var d *post.Disk
	if b, e := d.Read(-1); len(b) > 0 || e != api.ErrNil {
		t.Errorf("Read: %d bytes, error %d", len(b), e)
	}
	does(t, "Write", d.Write(-1, make([]byte, 65)), api.ErrNil)
	does(t, "Flush", d.Flush(), api.ErrNil)
	does(t, "Stop", d.Stop(-1), api.ErrNil)
	d.Crash([]int{1})
	if !d.Down() {
		t.Errorf("a nil disk is not down")
	}
}

// slowDisk is a disk as the chapter's words say: what is durable, and what is pending.
type slowDisk struct {
	durable map[int][64]byte
	pending []slowWrite
	power   int // -1: it lasts
	down    bool
}

type slowWrite struct {
	sector int
	b      [64]byte
}

func (d *slowDisk) read(sector int) [64]byte {
	b := d.durable[sector]
	for _, w := range d.pending {
		if w.sector == sector {
			b = w.b
		}
	}
	return b
}

func (d *slowDisk) call() bool {
	if d.power == 0 {
		d.down = true
	}
	if d.power > 0 {
		d.power--
	}
	return !d.down
}

func (d *slowDisk) write(sector int, b []byte) {
	if !d.down && d.call() {
		w := slowWrite{sector: sector}
		copy(w.b[:], b)
		d.pending = append(d.pending, w)
	}
}

func (d *slowDisk) flush() {
	if !d.down && d.call() {
		d.happen(func(int) int { return 64 })
	}
}

func (d *slowDisk) crash(keep []int) {
	d.happen(func(i int) int {
		if i < len(keep) {
			return keep[i]
		}
		return 0
	})
	d.down, d.power = false, -1
}

func (d *slowDisk) happen(keep func(int) int) {
	for i, w := range d.pending {
		b := d.durable[w.sector]
		for k := range b {
			if k < keep(i) {
				b[k] = w.b[k]
			}
		}
		d.durable[w.sector] = b
	}
	d.pending = nil
}

// P8.1, P8.2, H1 to H3: disks against a slow model.
func TestDisks(t *testing.T) {
	r := rand.New(rand.NewPCG(8, 1))
	downs := 0
	for range 300 {
		d, m := newDisk(t, 64), &slowDisk{durable: map[int][64]byte{}, power: -1}
		for range 60 {
			switch r.IntN(8) {
			case 0:
				n := r.IntN(12)
				d.Stop(n)
				if !m.down {
					m.power = n
				}
			case 1:
				keep := make([]int, r.IntN(6))
				for i := range keep {
					keep[i] = r.IntN(70) - 3
				}
				d.Crash(keep)
				m.crash(keep)
			case 2:
				d.Flush()
				m.flush()
			default:
				sector, b := r.IntN(4), bytes.Repeat([]byte{byte(r.IntN(256))}, r.IntN(65))
				d.Write(sector, b)
				m.write(sector, b)
			}
			if d.Down() != m.down {
				t.Fatalf("down: %v, want %v", d.Down(), m.down)
			}
			if m.down {
				downs++
				continue
			}
			for sector := range 4 {
				b, e := d.Read(sector)
				if want := m.read(sector); e != api.OK || string(b) != string(want[:]) {
					t.Fatalf("sector %d: %q, error %d, want %q", sector, b, e, want)
				}
			}
		}
	}
	if downs < 1000 {
		t.Errorf("down only %d times", downs)
	}
}
