package device

import (
	"bytes"
	"slices"
	"testing"

	"harrow/api"
)

func full(c byte) []byte { return bytes.Repeat([]byte{c}, api.Sector) }

func made(t *testing.T, sectors int) *Device {
	t.Helper()
	d, err := New(sectors)
	if err != api.OK || d == nil {
		t.Fatalf("New(%d): %v", sectors, err)
	}
	return d
}

func does(t *testing.T, want, got api.Errno) {
	t.Helper()
	if got != want {
		t.Fatalf("error is %v, want %v", got, want)
	}
}

// has asks for a sector full of one number.
func has(t *testing.T, d *Device, at int, c byte) {
	t.Helper()
	b, err := d.Read(at)
	if err != api.OK || !bytes.Equal(b, full(c)) {
		t.Fatalf("sector %d: %v, error %v, want all %d", at, b[:min(len(b), 4)], err, c)
	}
}

// fails asks for a Read that answers this error, and nothing else.
func fails(t *testing.T, d *Device, at int, want api.Errno) {
	t.Helper()
	if b, err := d.Read(at); err != want || len(b) != 0 {
		t.Fatalf("sector %d: %d bytes, error %v, want %v", at, len(b), err, want)
	}
}

func counted(t *testing.T, d *Device, reads, writes, flushes int) {
	t.Helper()
	if got := d.Counts(); got != (api.Counts{Reads: reads, Writes: writes, Flushes: flushes}) {
		t.Fatalf("counts %v, want %d %d %d", got, reads, writes, flushes)
	}
}

func TestA1New(t *testing.T) {
	for _, n := range []int{-1 << 62, -1, 0, api.MaxSector + 1, 1 << 62} {
		if d, err := New(n); err != api.ErrArg || d != nil {
			t.Errorf("New(%d): %v, %v", n, d, err)
		}
	}
	for _, n := range []int{1, 2, api.MaxSector} {
		d := made(t, n)
		if d.Sectors() != n || d.Down() || d.Counts() != (api.Counts{}) {
			t.Errorf("New(%d): %d sectors, down %v, %v", n, d.Sectors(), d.Down(), d.Counts())
		}
		has(t, d, 0, 0)
		has(t, d, n-1, 0)
	}
}

func TestA1Arguments(t *testing.T) {
	d := made(t, 3)
	for _, at := range []int{-1 << 62, -1, 3, 1 << 62} {
		fails(t, d, at, api.ErrArg)
		does(t, api.ErrArg, d.Write(at, full(1)))
	}
	for _, n := range []int{0, 1, api.Block, api.Sector - 1, api.Sector + 1, 2 * api.Sector} {
		does(t, api.ErrArg, d.Write(0, make([]byte, n)))
	}
	does(t, api.ErrArg, d.Write(0, nil))
	counted(t, d, 0, 0, 0)
	does(t, api.OK, d.Flush())
	for at := range 3 {
		has(t, d, at, 0)
	}
}

func TestA1ReadsWhatWasWrittenLast(t *testing.T) {
	d := made(t, 3)
	does(t, api.OK, d.Write(0, full(1)))
	does(t, api.OK, d.Write(2, full(2)))
	does(t, api.OK, d.Write(0, full(3)))
	for range 2 {
		has(t, d, 0, 3)
		has(t, d, 1, 0)
		has(t, d, 2, 2)
		does(t, api.OK, d.Flush())
	}
	does(t, api.OK, d.Write(0, full(4)))
	has(t, d, 0, 4)
	counted(t, d, 7, 4, 2)
}

func TestA1EachByteOfASector(t *testing.T) {
	d := made(t, 2)
	b := make([]byte, api.Sector)
	for i := range b {
		b[i] = byte(i*7 + i/256)
	}
	does(t, api.OK, d.Write(1, b))
	for range 2 {
		if got, err := d.Read(1); err != api.OK || !bytes.Equal(got, b) {
			t.Fatal(err)
		}
		does(t, api.OK, d.Flush())
	}
}

func TestA1FlushedIsNeverLost(t *testing.T) {
	d := made(t, 2)
	d.Write(0, full(1))
	d.Write(0, full(2))
	d.Flush()
	d.Crash([]int{2, 2, 2})
	does(t, api.OK, d.Start())
	has(t, d, 0, 2)
	d.Flush()
	has(t, d, 0, 2)
}

func TestA1Torn(t *testing.T) {
	d := made(t, 2)
	d.Write(0, full(1))
	d.Flush()
	d.Write(0, full(2))
	d.Crash([]int{2})
	d.Start()
	fails(t, d, 0, api.ErrTorn)
	does(t, api.OK, d.Flush())
	fails(t, d, 0, api.ErrTorn)
	has(t, d, 1, 0)
	counted(t, d, 3, 2, 2) // a read that finds its sector torn is done, and counted
	d.Write(1, full(3))
	fails(t, d, 0, api.ErrTorn)
	d.Write(0, full(4))
	has(t, d, 0, 4)
	d.Crash(nil)
	d.Start()
	fails(t, d, 0, api.ErrTorn)
	has(t, d, 1, 0)
	d.Write(0, full(5))
	does(t, api.OK, d.Flush())
	has(t, d, 0, 5)
	d.Crash(nil)
	d.Start()
	has(t, d, 0, 5)
}

func TestA1BytesAreOwn(t *testing.T) {
	d := made(t, 2)
	own := func(at int, c byte) {
		t.Helper()
		b, err := d.Read(at)
		does(t, api.OK, err)
		b[0], b[api.Sector-1] = 99, 99
		_ = append(b[:0], 98)
		has(t, d, at, c)
	}
	b := full(1)
	d.Write(0, b)
	if !bytes.Equal(b, full(1)) {
		t.Fatal("Write changed its bytes")
	}
	b[0] = 9
	own(0, 1)
	own(1, 0)
	d.Flush()
	own(0, 1)
	b = full(2)
	d.Write(0, b)
	d.Write(1, b)
	b[7] = 9
	d.Crash([]int{1, 1})
	d.Start()
	own(0, 2)
	own(1, 2)
}

func TestA1Down(t *testing.T) {
	d := made(t, 2)
	d.Write(0, full(1))
	d.Crash([]int{1})
	for _, at := range []int{0, 1} {
		fails(t, d, at, api.ErrDown)
		does(t, api.ErrDown, d.Write(at, full(2)))
	}
	does(t, api.ErrDown, d.Flush())
	fails(t, d, 2, api.ErrArg)
	does(t, api.ErrArg, d.Write(2, full(2)))
	does(t, api.ErrArg, d.Write(0, full(2)[1:]))
	counted(t, d, 0, 1, 0)
	if d.Sectors() != 2 {
		t.Fatal(d.Sectors())
	}
	does(t, api.OK, d.Start())
	does(t, api.OK, d.Flush())
	has(t, d, 0, 1)
	has(t, d, 1, 0)
	counted(t, d, 2, 1, 1)
}

func TestA2WhatACrashKeeps(t *testing.T) {
	const torn = 255
	for _, x := range []struct {
		keep []int
		a, b byte // sectors 0 and 1 behind the crash
	}{
		{nil, 1, 0}, {[]int{}, 1, 0}, {[]int{0, 0, 0}, 1, 0},
		{[]int{1}, 2, 0}, {[]int{1, 1}, 2, 3}, {[]int{1, 1, 1}, 4, 3}, {[]int{1, 0, 1}, 4, 0}, {[]int{0, 0, 1}, 4, 0},
		{[]int{2}, torn, 0}, {[]int{0, 2}, 1, torn}, {[]int{0, 0, 2}, torn, 0}, {[]int{2, 2, 2}, torn, torn},
		{[]int{2, 0, 1}, 4, 0}, {[]int{1, 0, 2}, torn, 0}, {[]int{2, 1, 0}, torn, 3},
		{[]int{-1, 3, 1 << 62}, 1, 0}, {[]int{-2, -1 << 62, 1}, 4, 0},
		{[]int{1, 0, 0, 2, 1}, 2, 0}, {[]int{0, 0, 0, 1, 1, 2}, 1, 0},
	} {
		d := made(t, 2)
		d.Write(0, full(1))
		d.Flush()
		d.Write(0, full(2))
		d.Write(1, full(3))
		d.Write(0, full(4))
		keep := slices.Clone(x.keep)
		d.Crash(keep)
		if !slices.Equal(keep, x.keep) || !d.Down() {
			t.Fatalf("%v: %v, down %v", x.keep, keep, d.Down())
		}
		counted(t, d, 0, 4, 1)
		does(t, api.OK, d.Start())
		for range 2 { // the flush has nothing to do: none waits any more
			for at, c := range []byte{x.a, x.b} {
				if c == torn {
					fails(t, d, at, api.ErrTorn)
				} else {
					has(t, d, at, c)
				}
			}
			d.Flush()
		}
	}
}

func TestA2ExampleOfTheChapter(t *testing.T) {
	d := made(t, 1)
	d.Write(0, full(1))
	d.Write(0, full(2))
	d.Crash([]int{1, 2})
	d.Start()
	fails(t, d, 0, api.ErrTorn)
}

func TestA2StartAndDown(t *testing.T) {
	d := made(t, 1)
	does(t, api.ErrState, d.Start())
	for range 2 {
		d.Crash(nil)
		d.Crash([]int{1, 2})
		if !d.Down() {
			t.Fatal("up behind a crash")
		}
		does(t, api.OK, d.Start())
		if d.Down() {
			t.Fatal("down behind Start")
		}
		does(t, api.ErrState, d.Start())
		has(t, d, 0, 0)
	}
}

func TestA2ArmedCrash(t *testing.T) {
	for n := range 4 {
		for kind := range 3 {
			d := made(t, 2)
			d.Write(0, full(1))
			d.Arm(n, []int{2})
			for range n {
				does(t, api.OK, d.Write(1, full(2)))
			}
			before := d.Counts()
			switch kind {
			case 0:
				fails(t, d, 1, api.ErrDown)
			case 1:
				does(t, api.ErrDown, d.Write(1, full(3)))
			case 2:
				does(t, api.ErrDown, d.Flush())
			}
			if !d.Down() || d.Counts() != before {
				t.Fatalf("%d, %d: down %v, %v", n, kind, d.Down(), d.Counts())
			}
			does(t, api.ErrDown, d.Flush())
			does(t, api.OK, d.Start())
			fails(t, d, 0, api.ErrTorn)
			has(t, d, 1, 0)
			for range n + 2 { // it came once
				does(t, api.OK, d.Flush())
			}
		}
	}
}

func TestA2WhatBringsTheArmedCrashNearer(t *testing.T) {
	d := made(t, 2)
	d.Write(1, full(1))
	d.Crash([]int{2})
	d.Start()
	d.Arm(3, nil)
	fails(t, d, 1, api.ErrTorn)
	fails(t, d, 2, api.ErrArg)
	does(t, api.ErrArg, d.Write(-1, full(1)))
	does(t, api.ErrArg, d.Write(0, nil))
	does(t, api.OK, d.Flush())
	has(t, d, 0, 0)
	fails(t, d, 2, api.ErrArg) // its time has come, but this is no operation that is done
	does(t, api.ErrArg, d.Write(0, nil))
	if d.Down() {
		t.Fatal("down too early")
	}
	fails(t, d, 1, api.ErrDown)
}

func TestA2TheLastArmCounts(t *testing.T) {
	for _, n := range []int{-1, -2, -1 << 62} {
		d := made(t, 1)
		d.Arm(1, []int{1})
		d.Arm(n, []int{1})
		for range 4 {
			has(t, d, 0, 0)
		}
	}
	d := made(t, 1)
	d.Arm(5, []int{2})
	d.Arm(0, []int{1})
	d.Arm(2, nil)
	does(t, api.OK, d.Write(0, full(1)))
	has(t, d, 0, 1)
	does(t, api.ErrDown, d.Flush())
	d.Start()
	has(t, d, 0, 0)
}

func TestA2ArmKeepsACopy(t *testing.T) {
	d := made(t, 1)
	keep := []int{1}
	d.Arm(1, keep)
	keep[0] = 2
	d.Write(0, full(1))
	does(t, api.ErrDown, d.Flush())
	if keep[0] != 2 {
		t.Fatal(keep)
	}
	d.Start()
	has(t, d, 0, 1)
}

func TestA2CrashesAndWhatIsArmed(t *testing.T) {
	d := made(t, 1)
	d.Arm(0, nil)
	d.Crash(nil)
	d.Start()
	has(t, d, 0, 0) // a crash disarms
	d.Crash(nil)
	d.Arm(0, nil)
	d.Crash(nil)
	d.Start()
	has(t, d, 0, 0) // also one of a device that was down
}

func TestA2ArmedWhileDown(t *testing.T) {
	for n := range 3 {
		d := made(t, 2)
		d.Crash(nil)
		d.Arm(n, []int{1})
		for range 3 {
			does(t, api.ErrDown, d.Flush()) // not done, and finds no crash: what is armed waits till the device is up
		}
		d.Start()
		for range n {
			does(t, api.OK, d.Write(1, full(1)))
		}
		does(t, api.ErrDown, d.Write(0, full(2)))
		d.Start()
		has(t, d, 0, 0)
		has(t, d, 1, byte(min(n, 1)))
	}
}

func TestDevicesAreOnTheirOwn(t *testing.T) {
	a, b := made(t, 1), made(t, 1)
	a.Write(0, full(1))
	a.Flush()
	a.Write(0, full(2))
	a.Arm(9, nil)
	a.Crash([]int{2})
	if b.Down() {
		t.Fatal("down")
	}
	has(t, b, 0, 0)
	counted(t, b, 1, 0, 0)
}
