package post

import (
	"slices"

	"lagan/api"
)

// sector is what is in a sector of a disk.
type sector [api.SectorSize]byte

// change is a write that is not durable yet.
type change struct {
	at       int
	was, now sector
}

// lasting is the power of a disk that is not going to stop.
const lasting = -1

// Disk is a disk.
type Disk struct {
	sectors []sector // with what is pending
	pending []change
	power   int // for how many calls of Write and Flush
	down    bool
}

// NewDisk returns a disk; ErrArg if the number of sectors is not in range.
func NewDisk(sectors int) (*Disk, api.Errno) {
	if !within(sectors, api.MinSectors, api.MaxSectors) {
		return nil, api.ErrArg
	}
	return &Disk{sectors: make([]sector, sectors), power: lasting}, api.OK
}

// Read returns the bytes of a sector, as they were written last.
func (d *Disk) Read(sector int) ([]byte, api.Errno) {
	if e := d.refusal(); e != api.OK {
		return nil, e
	}
	if !d.has(sector) {
		return nil, api.ErrArg
	}
	return slices.Clone(d.sectors[sector][:]), api.OK
}

// Write writes a sector: the bytes, and zeros behind them.
func (d *Disk) Write(sector int, b []byte) api.Errno {
	if e := d.refusal(); e != api.OK {
		return e
	}
	if !d.has(sector) {
		return api.ErrArg
	}
	if len(b) > api.SectorSize {
		return api.ErrLimit
	}
	if !d.spend() {
		return api.ErrDown
	}
	c := change{at: sector, was: d.sectors[sector]}
	copy(c.now[:], b)
	d.sectors[sector] = c.now
	d.pending = append(d.pending, c)
	return api.OK
}

// Flush makes all writes durable.
func (d *Disk) Flush() api.Errno {
	if e := d.refusal(); e != api.OK {
		return e
	}
	if !d.spend() {
		return api.ErrDown
	}
	d.pending = nil
	return api.OK
}

// Stop lets the power fail after a number of further calls of Write and Flush.
func (d *Disk) Stop(calls int) api.Errno {
	if e := d.refusal(); e != api.OK {
		return e
	}
	if calls < 0 {
		return api.ErrArg
	}
	d.power = calls
	return api.OK
}

// Crash makes of each pending write only the first bytes happen, as many as keep says, and brings the disk up again.
func (d *Disk) Crash(keep []int) {
	if d == nil {
		return
	}
	for _, c := range slices.Backward(d.pending) {
		d.sectors[c.at] = c.was
	}
	for i, c := range d.pending {
		if i < len(keep) {
			kept := min(max(keep[i], 0), api.SectorSize)
			copy(d.sectors[c.at][:kept], c.now[:])
		}
	}
	d.pending = nil
	d.power = lasting
	d.down = false
}

// Down reports whether the disk is down.
func (d *Disk) Down() bool { return d == nil || d.down }

// refusal returns why nothing can be done with the disk; OK if something can.
func (d *Disk) refusal() api.Errno {
	switch {
	case d == nil:
		return api.ErrNil
	case d.down:
		return api.ErrDown
	}
	return api.OK
}

func (d *Disk) has(sector int) bool { return within(sector, 0, len(d.sectors)-1) }

// spend uses up the power for a call, and returns whether there was any; if not, the disk is down.
func (d *Disk) spend() bool {
	if d.power == 0 {
		d.down = true
		return false
	}
	if d.power != lasting {
		d.power--
	}
	return true
}
