package post

import (
	"iter"

	"lagan/api"
)

// What a station writes on its disk: in the sector 0 whose book it is; behind it the letters with what each operation has
// added. A letter is in the first bytes of as many sectors as it needs, and ends before the first zero. The last byte of
// its first sector is the mark that it is there. This sector is written when the others are durable: so a torn write,
// which changes the first bytes only, never makes a mark, and what has a mark is whole.
const (
	firstLetter = 1
	markAt      = api.SectorSize - 1
	mark        = 1
)

// ownerOf returns the sector that says whose book a disk contains. It is a single byte, which cannot be torn.
func ownerOf(station, n int) sector { return sector{byte(n*api.MaxStations + station)} }

// letters yields the texts of the letters on a disk, and the sectors behind them.
func (d *Disk) letters() iter.Seq2[string, int] {
	return func(yield func(string, int) bool) {
		for at := firstLetter; d.has(at) && d.sectors[at][markAt] == mark; {
			text, end := d.letterAt(at)
			if !yield(text, end) {
				return
			}
			at = end
		}
	}
}

// letterAt returns the text of the letter that begins in a sector, and the sector behind it.
func (d *Disk) letterAt(at int) (text string, end int) {
	var out []byte
search:
	for end = at; end < len(d.sectors); end++ {
		for _, b := range d.sectors[end][:markAt] {
			if b == 0 {
				end++
				break search
			}
			out = append(out, b)
		}
	}
	return string(out), end
}

// sectorsOf returns the sectors of a text, with at least one zero behind it.
func sectorsOf(text string) []sector {
	out := make([]sector, len(text)/markAt+1)
	for i := range out {
		copy(out[i][:markAt], text[i*markAt:])
	}
	return out
}

// write makes sectors durable.
func (d *Disk) write(at int, sectors ...sector) api.Errno {
	for i, s := range sectors {
		if e := d.Write(at+i, s[:]); e != api.OK {
			return e
		}
	}
	return d.Flush()
}

// writeLetter makes the sectors of a letter durable, as a whole or not at all.
func (d *Disk) writeLetter(at int, sectors []sector) api.Errno {
	if len(sectors) > 1 {
		if e := d.write(at+1, sectors[1:]...); e != api.OK {
			return e
		}
	}
	first := sectors[0]
	first[markAt] = mark
	return d.write(at, first)
}
