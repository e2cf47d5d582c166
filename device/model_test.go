package device

import (
	"bytes"
	"testing"

	"harrow/api"
)

// The model of a device: it keeps all that was ever written, and what became of it, and looks through that when it is asked.
const (
	waiting = iota
	done
	torn
	lost
)

type entry struct {
	at, fate int
	data     byte
}

type model struct {
	log    []entry
	down   bool
	fuse   int // -1: nothing is armed
	keep   []int
	counts api.Counts
}

func (m *model) crash(keep []int) {
	place := 0
	for i := range m.log {
		if m.log[i].fate != waiting {
			continue
		}
		m.log[i].fate = lost
		if place < len(keep) && keep[place] == 1 {
			m.log[i].fate = done
		} else if place < len(keep) && keep[place] == 2 {
			m.log[i].fate = torn
		}
		place++
	}
	m.down, m.fuse = true, -1
}

func (m *model) operation() api.Errno {
	if m.down {
		return api.ErrDown
	}
	if m.fuse == 0 {
		m.crash(m.keep)
		return api.ErrDown
	}
	if m.fuse > 0 {
		m.fuse--
	}
	return api.OK
}

func (m *model) read(at int) (byte, api.Errno) {
	if err := m.operation(); err != api.OK {
		return 0, err
	}
	m.counts.Reads++
	found := entry{fate: done}
	for _, e := range m.log {
		newer := e.fate == waiting || found.fate != waiting // what waits stands above all that is settled
		if e.at == at && e.fate != lost && newer {
			found = e
		}
	}
	if found.fate == torn {
		return 0, api.ErrTorn
	}
	return found.data, api.OK
}

func (m *model) write(at int, data byte) api.Errno {
	err := m.operation()
	if err == api.OK {
		m.counts.Writes++
		m.log = append(m.log, entry{at, waiting, data})
	}
	return err
}

func (m *model) flush() api.Errno {
	err := m.operation()
	if err == api.OK {
		m.counts.Flushes++
		for i := range m.log {
			if m.log[i].fate == waiting {
				m.log[i].fate = done
			}
		}
	}
	return err
}

func (m *model) start() api.Errno {
	if !m.down {
		return api.ErrState
	}
	m.down = false
	return api.OK
}

// A pair is a device and its model, that are handed the same.
type pair struct {
	d *Device
	m *model
}

func agree(t *testing.T, want, got api.Errno) {
	if got != want {
		t.Errorf("error is %v, want %v", got, want)
	}
}

func (p pair) reads(t *testing.T, at int) {
	want, werr := p.m.read(at)
	b, err := p.d.Read(at)
	agree(t, werr, err)
	if err != api.OK && len(b) != 0 {
		t.Errorf("sector %d: bytes beside %v", at, err)
	}
	if err == api.OK && !bytes.Equal(b, full(want)) {
		t.Errorf("sector %d is %d .., want all %d", at, b[0], want)
	}
}

var moves = []func(*testing.T, pair, byte){
	func(t *testing.T, p pair, _ byte) { p.reads(t, 0) },
	func(t *testing.T, p pair, c byte) { agree(t, p.m.write(0, c), p.d.Write(0, full(c))) },
	func(t *testing.T, p pair, c byte) { agree(t, p.m.write(1, c), p.d.Write(1, full(c))) },
	func(t *testing.T, p pair, _ byte) { agree(t, p.m.flush(), p.d.Flush()) },
	func(t *testing.T, p pair, _ byte) { agree(t, p.m.start(), p.d.Start()) },
	func(t *testing.T, p pair, _ byte) { p.m.crash(nil); p.d.Crash(nil) },
	func(t *testing.T, p pair, _ byte) { p.m.crash([]int{1, 2}); p.d.Crash([]int{1, 2}) },
	func(t *testing.T, p pair, _ byte) { p.m.crash([]int{2, 1}); p.d.Crash([]int{2, 1}) },
	func(t *testing.T, p pair, _ byte) { p.m.fuse, p.m.keep = 1, []int{2}; p.d.Arm(1, []int{2}) },
	func(t *testing.T, p pair, _ byte) { p.m.fuse = -1; p.d.Arm(-1, []int{1}) },
}

// TestAgainstModel plays every list of five moves: what waits, what is torn and what is armed meet in more ways than are written out elsewhere.
func TestAgainstModel(t *testing.T) {
	const long = 5
	lists := 1
	for range long {
		lists *= len(moves)
	}
	for list := range lists {
		p := pair{made(t, 2), &model{fuse: -1}}
		rest := list
		for step := range long {
			moves[rest%len(moves)](t, p, byte(step+1))
			rest /= len(moves)
		}
		if p.d.Down() != p.m.down {
			t.Errorf("down %v", p.d.Down())
		}
		agree(t, p.m.start(), p.d.Start())
		p.reads(t, 0)
		p.reads(t, 1)
		if p.d.Counts() != p.m.counts {
			t.Errorf("%v, want %v", p.d.Counts(), p.m.counts)
		}
		if t.Failed() {
			t.Fatalf("in list %d of moves", list)
		}
	}
}
