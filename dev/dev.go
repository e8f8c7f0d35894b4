// Package dev is layer 1: sectors, that stay when they are flushed.
package dev

import (
	"iter"

	"breviary/api"
)

const (
	noLimit    = -1
	sectorBits = 8 * api.Sector
)

type sector [api.Sector]byte

// waiting is a sector that was written and isn't flushed yet.
type waiting struct {
	at int
	s  sector
}

// Dev is a device.
type Dev struct {
	stays []sector
	waits []waiting // one sector may wait more than once: a crash may leave an elder one alone
	calls int
	left  int // calls up to the limit, or noLimit
	off   bool
}

// New device. ErrArg.
func New(sectors int) (*Dev, api.Errno) {
	if sectors < 1 || sectors > api.MostSectors {
		return nil, api.ErrArg
	}
	return &Dev{stays: make([]sector, sectors), left: noLimit}, api.OK
}

// Size in sectors.
func (d *Dev) Size() int {
	if d == nil {
		return 0
	}
	return len(d.stays)
}

// Read sectors. ErrNil, ErrOff, ErrRange.
func (d *Dev) Read(at, n int) ([]byte, api.Errno) {
	if e := d.ready(); e != api.OK {
		return nil, e
	}
	if !d.has(at, n) {
		return nil, api.ErrRange
	}
	return join(d.seen(at, n)), api.OK
}

// Write sectors. ErrNil, ErrOff, ErrArg, ErrRange.
func (d *Dev) Write(at int, b []byte) api.Errno {
	if e := d.ready(); e != api.OK {
		return e
	}
	if len(b)%api.Sector != 0 {
		return api.ErrArg
	}
	if !d.has(at, len(b)/api.Sector) {
		return api.ErrRange
	}
	if e := d.spend(); e != api.OK {
		return e
	}
	for i, s := range split(b) {
		d.waits = append(d.waits, waiting{at + i, s})
	}
	return api.OK
}

// Flush all that wait. ErrNil, ErrOff.
func (d *Dev) Flush() api.Errno {
	if e := d.ready(); e != api.OK {
		return e
	}
	if e := d.spend(); e != api.OK {
		return e
	}
	d.settle(func(int) bool { return true })
	return api.OK
}

// Limit the calls.
func (d *Dev) Limit(calls int) {
	if d == nil {
		return
	}
	d.left = max(calls, noLimit)
}

// Crash: some of what waits stays.
func (d *Dev) Crash(keep []bool) {
	if d == nil {
		return
	}
	d.settle(func(i int) bool { return i < len(keep) && keep[i] })
	d.off = false
	d.left = noLimit
}

// Turn a bit of what stays. ErrNil, ErrRange.
func (d *Dev) Turn(at, bit int) api.Errno {
	if d == nil {
		return api.ErrNil
	}
	if !d.has(at, 1) || bit < 0 || bit >= sectorBits {
		return api.ErrRange
	}
	d.stays[at][bit/8] ^= 1 << (bit % 8)
	return api.OK
}

// Waiting sectors.
func (d *Dev) Waiting() int {
	if d == nil {
		return 0
	}
	return len(d.waits)
}

// Calls that were done.
func (d *Dev) Calls() int {
	if d == nil {
		return 0
	}
	return d.calls
}

// Off: is it?
func (d *Dev) Off() bool {
	return d != nil && d.off
}

// Image of what stays.
func (d *Dev) Image() []byte {
	if d == nil {
		return nil
	}
	return join(d.stays)
}

func (d *Dev) ready() api.Errno {
	if d == nil {
		return api.ErrNil
	}
	if d.off {
		return api.ErrOff
	}
	return api.OK
}

// has takes n from the size, as at + n may wrap round.
func (d *Dev) has(at, n int) bool {
	return at >= 0 && n >= 0 && n <= len(d.stays)-at
}

// spend comes behind all that refuses a call, as refused calls don't count.
func (d *Dev) spend() api.Errno {
	if d.left == 0 {
		d.off = true
		return api.ErrOff
	}
	if d.left > 0 {
		d.left--
	}
	d.calls++
	return api.OK
}

// settle ends all waiting: the i-th that waits stays, if keep tells so.
func (d *Dev) settle(keep func(i int) bool) {
	for i, w := range d.waits {
		if keep(i) {
			d.stays[w.at] = w.s
		}
	}
	d.waits = nil
}

// seen is what a reader sees: what stays, with what waits over it.
func (d *Dev) seen(at, n int) []sector {
	seen := make([]sector, n)
	copy(seen, d.stays[at:])
	for _, w := range d.waits {
		if w.at >= at && w.at-at < n {
			seen[w.at-at] = w.s
		}
	}
	return seen
}

// split goes over the sectors of b, whose length is a multiple of theirs.
func split(b []byte) iter.Seq2[int, sector] {
	return func(yield func(int, sector) bool) {
		for i := range len(b) / api.Sector {
			var s sector
			copy(s[:], b[i*api.Sector:])
			if !yield(i, s) {
				return
			}
		}
	}
}

func join(sectors []sector) []byte {
	b := make([]byte, len(sectors)*api.Sector)
	for i, s := range sectors {
		copy(b[i*api.Sector:], s[:])
	}
	return b
}
