package journal

import (
	"math"
	"slices"
	"testing"

	"harrow/api"
	"harrow/device"
)

const maxSeq = 1<<48 - 1

// plain is a state that is right for 10 places and more, no number of it at an edge: 3, 4, 5 and 6 are in use.
func plain() State {
	return State{Epoch: 5, Start: 7, Seq: 20, Head: 7, Used: 4, At: []int{-1, 4, -1, 6}}
}

// judged asks Right, and New on a device that is large enough, if there is any.
func judged(t *testing.T, places int, s State, ok bool) {
	t.Helper()
	at := slices.Clone(s.At)
	if got := Right(places, s); got != ok {
		t.Fatalf("Right(%d, %+v): %v", places, brief(s), got)
	}
	if places >= 1 && places < 20000 {
		d := deviceOf(t, places+1)
		j, err := New(d, places, s)
		if ok && (j == nil || err != api.OK || !same(j.State(), s) || j.Room() != places-s.Used || j.Broken()) {
			t.Fatalf("New of %d places, %+v: %v", places, brief(s), err)
		}
		if !ok && (j != nil || err != api.ErrArg) {
			t.Fatalf("New of %d places, %+v: %v, want none, and ErrArg", places, brief(s), err)
		}
		if d.Counts() != (api.Counts{}) {
			t.Fatalf("New: %+v", d.Counts())
		}
	}
	if !slices.Equal(s.At, at) {
		t.Fatal("At was written over")
	}
}

// brief is a state without most of a long list.
func brief(s State) State {
	s.At = s.At[:min(len(s.At), 20)]
	return s
}

func deviceOf(t *testing.T, sectors int) *device.Device {
	t.Helper()
	d, err := device.New(sectors)
	if err != api.OK {
		t.Fatal(err)
	}
	return d
}

func TestH1EmptyStates(t *testing.T) {
	judged(t, 10, plain(), true)
	judged(t, 10, State{}, false)
	judged(t, 0, State{}, false)
	judged(t, 1, State{Epoch: 1, Start: 1, At: []int{-1}}, true) // the least one
	judged(t, 1, State{Epoch: 1, Start: 1, Used: 1, At: []int{0}}, true)
	judged(t, 1, State{Epoch: 1, Start: 1, Used: 0, At: []int{0}}, false)
}

func TestH1Epoch(t *testing.T) {
	for _, e := range []uint32{0, 1, 2, 255, 256, 1<<31 - 1, 1 << 31, math.MaxUint32 - 1, math.MaxUint32} {
		s := plain()
		s.Epoch = e
		judged(t, 10, s, e != 0)
	}
}

func TestH1SeqAndStart(t *testing.T) {
	edges := []uint64{0, 1, 2, 19, 20, 21, 22, 1 << 31, 1 << 32, maxSeq - 1, maxSeq, maxSeq + 1, maxSeq + 2, 1<<48 + 20, 1 << 63, 1<<63 - 1, math.MaxUint64 - 1, math.MaxUint64}
	count := 0
	for _, seq := range edges {
		for _, start := range edges {
			s := plain()
			s.Start, s.Seq = start, seq
			ok := !(seq > maxSeq || start == 0 || start > seq && start-seq > 1)
			judged(t, 10, s, ok)
			if ok {
				count++
			}
		}
	}
	if count != 1+2+2+4+5+6+6+7+8+10+11 {
		t.Errorf("%d are right", count)
	}
	for _, c := range []struct {
		start, seq uint64
		ok         bool
	}{
		{0, 0, false}, {1, 0, true}, {2, 0, false}, {0, 20, false}, {1, 20, true}, {20, 20, true}, {21, 20, true}, {22, 20, false},
		{1, maxSeq, true}, {maxSeq, maxSeq, true}, {maxSeq + 1, maxSeq, true}, {maxSeq + 2, maxSeq, false}, {maxSeq, maxSeq - 1, true}, {maxSeq + 1, maxSeq - 1, false},
		{1, maxSeq + 1, false}, {1, math.MaxUint64, false}, {0, math.MaxUint64, false}, {math.MaxUint64, math.MaxUint64, false}, {math.MaxUint64, 20, false},
	} {
		s := plain()
		s.Start, s.Seq = c.start, c.seq
		judged(t, 10, s, c.ok)
	}
}

func TestH1HeadAndUsed(t *testing.T) {
	edges := []int{math.MinInt, math.MinInt32, -11, -10, -9, -2, -1, 0, 1, 5, 8, 9, 10, 11, 12, 19, 20, 1<<32 + 5, math.MaxInt - 1, math.MaxInt}
	for _, head := range edges {
		for _, used := range edges {
			s := State{Epoch: 1, Start: 1, Head: head, Used: used, At: none(3)}
			judged(t, 10, s, head >= 0 && head <= 9 && used >= 0 && used <= 10)
		}
	}
}

func TestH1HowManyBlocks(t *testing.T) {
	for _, n := range []int{0, 1, 2, 3839, 3840, 3841, 5000, 100000} {
		s := plain()
		s.At = none(n)
		judged(t, 10, s, n >= 1 && n <= 3840)
		s = State{Epoch: 1, Start: 1, Head: 17, Used: n, At: from(0, n)} // each at a place of its own, all these in use
		s.Head = n % 19999
		judged(t, 19999, s, n >= 1 && n <= 3840)
	}
	s := plain()
	s.At = nil
	judged(t, 10, s, false)
	s.At = []int{}
	judged(t, 10, s, false)
}

func TestH1NumbersOfPlaces(t *testing.T) {
	for _, n := range []int{math.MinInt, math.MinInt + 1, math.MinInt32, -11, -10, -9, -3, -2, -1, 0, 1, 9, 10, 11, 12, 20, 1<<32 - 1, 1 << 32, 1<<32 + 3, math.MaxInt - 1, math.MaxInt} {
		for at := range 4 {
			s := plain()
			s.Used = 10 // all are in use
			s.At[at] = n
			judged(t, 10, s, n >= -1 && n <= 9 && !slices.Contains(plain().At, n) || n == plain().At[at] || n == -1)
		}
	}
}

func TestH1EachPlaceInUseOrNot(t *testing.T) {
	for places := 1; places <= 7; places++ {
		for head := range places {
			for used := 0; used <= places; used++ {
				m := &model{places: places, s: State{Head: head, Used: used}}
				use := m.use()
				for place := -1; place < places; place++ {
					s := State{Epoch: 1, Start: 1, Head: head, Used: used, At: []int{-1, place}}
					judged(t, places, s, place == -1 || slices.Contains(use, place))
				}
				s := State{Epoch: 1, Start: 1, Head: head, Used: used, At: append([]int{-1}, use...)}
				judged(t, places, s, true)
			}
		}
	}
}

func TestH1RoundTheEnd(t *testing.T) {
	for _, c := range []struct {
		head, used, place int
		ok                bool
	}{
		{3, 4, 9, true}, {3, 4, 0, true}, {3, 4, 2, true}, {3, 4, 8, false}, {3, 4, 3, false}, // 9, 0, 1, 2
		{0, 3, 7, true}, {0, 3, 9, true}, {0, 3, 6, false}, {0, 3, 0, false}, // 7, 8, 9
		{9, 9, 0, true}, {9, 9, 8, true}, {9, 9, 9, false}, {9, 10, 9, true},
		{4, 0, 3, false}, {4, 0, 4, false}, {4, 1, 3, true}, {4, 1, 4, false}, {4, 1, 2, false},
	} {
		judged(t, 10, State{Epoch: 1, Start: 1, Head: c.head, Used: c.used, At: []int{c.place}}, c.ok)
	}
}

func TestH1TwoBlocksAtOnePlace(t *testing.T) {
	for place := -1; place <= 6; place++ {
		for first := range 4 {
			for second := range first {
				s := State{Epoch: 1, Start: 1, Head: 3, Used: 7, At: none(4)}
				s.At[first], s.At[second] = place, place
				judged(t, 7, s, place == -1)
			}
		}
	}
	s := State{Epoch: 1, Start: 1, Head: 3840, Used: 3840, At: from(0, 3840)}
	judged(t, 5000, s, true)
	s.At[3839] = 0
	judged(t, 5000, s, false)
	s.At[3839] = 3838
	judged(t, 5000, s, false)
	s.At[3838] = 3839
	judged(t, 5000, s, true)
}

func TestH1RightOfAnyPlaces(t *testing.T) {
	s := State{Epoch: 1, Start: 1, At: []int{-1}}
	for _, n := range []int{math.MinInt, math.MinInt32, -2, -1, 0} {
		judged(t, n, s, false)
		x := s
		x.Head = n - 1
		judged(t, n, x, false)
		x.Head, x.Used = n, n
		judged(t, n, x, false)
	}
	for _, n := range []int{1, 2, 19999, 20000, 1<<20 - 1, 1 << 20, 1<<20 + 1, 1 << 21, 1<<31 - 1, 1 << 31, 1<<32 + 1, math.MaxInt - 1, math.MaxInt} {
		for _, c := range []struct {
			head, used int
			at         []int
			ok         bool
		}{
			{0, 0, []int{-1}, true}, {n - 1, n, []int{-1}, true}, {n, 0, []int{-1}, false}, {0, n, []int{n - 1}, true}, {n - 1, n, []int{n - 1}, true},
			{0, 1, []int{n - 1}, true}, {0, 0, []int{n - 1}, false}, {n - 1, n, []int{0}, true}, {n - 1, n - 1, []int{n - 1}, false}, {n - 1, n - 1, []int{0}, n > 1},
			{0, n, []int{n}, false}, {0, n, []int{-n - 1}, false}, {0, n, []int{-2}, false},
		} {
			judged(t, n, State{Epoch: 1, Start: 1, Head: c.head, Used: c.used, At: c.at}, c.ok)
		}
		if n < math.MaxInt {
			judged(t, n, State{Epoch: 1, Start: 1, Used: n + 1, At: []int{-1}}, false)
		}
	}
	// behind the length of the longest ring
	judged(t, 1<<30, State{Epoch: 1, Start: 1, Head: 1<<25 + 5, Used: 5, At: []int{1 << 25, 1<<25 + 4}}, true)
	judged(t, 1<<30, State{Epoch: 1, Start: 1, Head: 1<<25 + 5, Used: 5, At: []int{0}}, false)
	judged(t, 1<<30, State{Epoch: 1, Start: 1, Head: 1<<25 + 5, Used: 5, At: []int{1<<25 - 1}}, false)
	judged(t, 1<<30, State{Epoch: 1, Start: 1, Head: 5, Used: 1 << 22, At: []int{3, 1<<20 + 3}}, false)
	judged(t, 1<<30, State{Epoch: 1, Start: 1, Head: 1 << 22, Used: 1 << 22, At: []int{3, 1<<20 + 3}}, true) // no two are one place
}

func TestH1RightOfOtherPlaces(t *testing.T) {
	s := plain() // 3 to 6 are in use
	for _, c := range []struct {
		places int
		ok     bool
	}{{6, false}, {7, false}, {8, true}, {9, true}, {10, true}, {500, true}} {
		judged(t, c.places, s, c.ok)
	}
	s.Head, s.Used = 0, 4
	s.At = []int{6}
	judged(t, 10, s, true)
	judged(t, 11, s, false) // what is in use ends at the last place
	judged(t, 6, s, false)
}

func TestH1NewOfPlacesThatThereAreNot(t *testing.T) {
	for _, sectors := range []int{1, 2, 3, 10, 20000} {
		for _, places := range []int{math.MinInt, -sectors, -2, -1, 0, 1, 2, sectors - 2, sectors - 1, sectors, sectors + 1, 2 * sectors, 1 << 32, math.MaxInt} {
			d := deviceOf(t, sectors)
			s := State{Epoch: 1, Start: 1, At: none(2)}
			j, err := New(d, places, s)
			if ok := places >= 1 && places <= sectors-1; ok != (j != nil) || ok != (err == api.OK) {
				t.Errorf("New of %d sectors, %d places: %v", sectors, places, err)
			}
			if err != api.OK && err != api.ErrArg || d.Counts() != (api.Counts{}) {
				t.Errorf("New of %d sectors, %d places: %v, %+v", sectors, places, err, d.Counts())
			}
			if j != nil && j.Room() != places {
				t.Errorf("Room: %d", j.Room())
			}
			if j, err := New(d, places, State{}); j != nil || err != api.ErrArg { // both are wrong
				t.Errorf("New of no state: %v", err)
			}
		}
	}
	for _, d := range []*device.Device{nil, new(device.Device)} {
		if j, err := New(d, 1, State{Epoch: 1, Start: 1, At: none(2)}); j != nil || err != api.ErrArg {
			t.Errorf("New of no device: %v", err)
		}
	}
}

func TestH1NewOfADeviceThatIsDown(t *testing.T) {
	d := deviceOf(t, 20)
	d.Crash(nil)
	j, err := New(d, 19, plain())
	if err != api.OK || !same(j.State(), plain()) || j.Room() != 15 || j.Broken() {
		t.Fatal(err)
	}
	if b, err := j.Read(0); err != api.OK || !slices.Equal(b, make([]byte, 480)) || j.Broken() { // it was never written
		t.Error(err)
	}
	if b, err := j.Read(1); err != api.ErrDown || len(b) != 0 || !j.Broken() {
		t.Error(err)
	}
}

func TestH1StateIsTheCallersOwn(t *testing.T) {
	d := deviceOf(t, 20)
	s := plain()
	j, _ := New(d, 12, s)
	s.At[0], s.At[1], s.At[3] = 5, -1, 99
	if !same(j.State(), plain()) {
		t.Fatalf("the list that was handed in is kept: %+v", j.State())
	}
	a, b := j.State(), j.State()
	for i := range a.At {
		a.At[i] = 77
	}
	if !same(b, plain()) || !same(j.State(), plain()) {
		t.Fatalf("lists that were told are one: %+v, %+v", b, j.State())
	}
	_ = append(b.At[:1], 50)
	if !same(j.State(), plain()) {
		t.Fatal(j.State())
	}
}

func TestH1RoomBehindBatches(t *testing.T) {
	b := plainOf(t, 20, 6)
	for i, c := range []struct {
		ids        []int
		err        api.Errno
		used, room int
	}{
		{[]int{0, 1, 2}, api.OK, 3, 17},          // none is cleaned
		{[]int{3}, api.OK, 4, 14},                // 2 are cleaned, that hold 0 and 1: used 3 - 2 + 3, free 16 less 2
		{[]int{2}, api.OK, 4, 14},                // 2 are cleaned: that of 2, and that of 3, which moves
		{[]int{0, 1, 2, 3, 4, 5}, api.OK, 6, 10}, // all 4 are cleaned, no one moves
		{[]int{0}, api.OK, 6, 12},                // 0 and 1: 1 moves
		{[]int{5, 4}, api.OK, 6, 10},             // 2, 3, 4 and 5: 2 and 3 move
		{[]int{7}, api.ErrArg, 6, 10},            // as it was
		{[]int{0, 1, 2, 3, 4, 5}, api.OK, 6, 8},  // all 6
		{[]int{0, 1, 2, 3, 4, 5}, api.OK, 6, 8},  // and again
		{[]int{0, 0}, api.ErrArg, 6, 8},
		{[]int{1, 2, 3}, api.OK, 6, 8}, // all 6: 0, 4 and 5 move
		{[]int{5, 4, 3, 2, 1, 0}, api.OK, 6, 8},
		{nil, api.ErrArg, 6, 8},
		{[]int{4}, api.OK, 6, 12},
		{[]int{3, 2, 1, 0, 5, 4, 3}, api.ErrArg, 6, 12},
	} {
		b.does(t, of(i*10, c.ids...), c.err)
		if s := b.j.State(); s.Used != c.used || b.j.Room() != c.room {
			t.Fatalf("batch %d: used %d, room %d, want %d, %d", i, s.Used, b.j.Room(), c.used, c.room)
		}
	}
	again, err := New(b.d, 20, b.j.State()) // it knows of no batch ahead of it
	if err != api.OK || again.Room() != 14 || b.j.Room() != 12 {
		t.Error(err, again.Room())
	}
}

func TestH1RoomOfANewOne(t *testing.T) {
	for used := range 13 {
		j, err := New(deviceOf(t, 20), 12, State{Epoch: 1, Start: 3, Seq: 9, Head: 2, Used: used, At: none(2)})
		if err != api.OK || j.Room() != 12-used {
			t.Errorf("used %d: %v, Room %d", used, err, j.Room())
		}
	}
}
