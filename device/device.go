// Package device is layer 1, a simulated device with lost and torn writes: see shared/doc/01-device.md.
package device

import (
	"slices"

	"harrow/api"
)

// What a crash may do to a write that waits; by any other number it is lost.
const (
	isDone = 1
	isTorn = 2
)

// write is one that waits. Its data is a copy that nobody writes over, so that a sector may take it over as it is.
type write struct {
	at   int
	data []byte
}

// Device is sectors, and writes that wait (A1).
type Device struct {
	sectors [][]byte // nil, where nothing was ever done: such a sector is 0, and costs no memory
	waits   []write
	torn    map[int]struct{}
	counts  api.Counts
	down    bool
	armed   bool
	left    int // how many operations are done ahead of the armed crash
	keep    []int
}

// New is a device (A1).
func New(sectors int) (*Device, api.Errno) {
	if sectors < 1 || sectors > api.MaxSector {
		return nil, api.ErrArg
	}
	return &Device{sectors: make([][]byte, sectors), torn: map[int]struct{}{}}, api.OK
}

// Sectors is how many there are (A1).
func (d *Device) Sectors() int { return len(d.sectors) }

// Read is a sector as it was written last (A1).
func (d *Device) Read(at int) ([]byte, api.Errno) {
	if !d.has(at) {
		return nil, api.ErrArg
	}
	if err := d.begin(); err != api.OK {
		return nil, err
	}
	d.counts.Reads++
	for _, w := range slices.Backward(d.waits) {
		if w.at == at {
			return sectorOf(w.data), api.OK
		}
	}
	if _, ok := d.torn[at]; ok {
		return nil, api.ErrTorn
	}
	return sectorOf(d.sectors[at]), api.OK
}

// Write lets one more wait (A1).
func (d *Device) Write(at int, b []byte) api.Errno {
	if !d.has(at) || len(b) != api.Sector {
		return api.ErrArg
	}
	if err := d.begin(); err != api.OK {
		return err
	}
	d.counts.Writes++
	d.waits = append(d.waits, write{at, sectorOf(b)})
	return api.OK
}

// Flush does all that wait (A1).
func (d *Device) Flush() api.Errno {
	if err := d.begin(); err != api.OK {
		return err
	}
	d.counts.Flushes++
	for _, w := range d.waits {
		d.settle(w)
	}
	d.waits = nil
	return api.OK
}

// Counts is what was done, ever (A1).
func (d *Device) Counts() api.Counts { return d.counts }

// Crash takes the device down; keep says what becomes of what waits (A2).
func (d *Device) Crash(keep []int) {
	for i, w := range d.waits {
		if i >= len(keep) {
			break
		}
		switch keep[i] {
		case isDone:
			d.settle(w)
		case isTorn:
			d.torn[w.at] = struct{}{}
		}
	}
	d.waits = nil
	d.down = true
	d.disarm()
}

// Arm has a crash wait for its operation (A2).
func (d *Device) Arm(n int, keep []int) {
	d.disarm()
	if n >= 0 {
		d.armed, d.left, d.keep = true, n, slices.Clone(keep)
	}
}

// Start takes the device up again (A2).
func (d *Device) Start() api.Errno {
	if !d.down {
		return api.ErrState
	}
	d.down = false
	return api.OK
}

// Down tells whether it is (A2).
func (d *Device) Down() bool { return d.down }

func (d *Device) has(at int) bool { return at >= 0 && at < len(d.sectors) }

// begin is the way into each operation whose arguments are right. Once it answers OK the operation counts as done, also a read that finds its sector torn: so it is here that the armed crash comes nearer.
func (d *Device) begin() api.Errno {
	if d.armed && d.left == 0 && !d.down {
		d.Crash(d.keep)
	}
	if d.down {
		return api.ErrDown
	}
	if d.armed {
		d.left--
	}
	return api.OK
}

func (d *Device) settle(w write) {
	d.sectors[w.at] = w.data
	delete(d.torn, w.at)
}

func (d *Device) disarm() { d.armed, d.left, d.keep = false, 0, nil }

// sectorOf is a sector of its own; one of nothing is 0.
func sectorOf(b []byte) []byte {
	s := make([]byte, api.Sector)
	copy(s, b)
	return s
}
