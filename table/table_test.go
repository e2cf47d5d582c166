package table

import (
	"math"
	"slices"
	"strconv"
	"testing"
)

// extremes are numbers far from each edge.
var extremes = []int{math.MinInt, math.MinInt + 1, math.MinInt32 - 1, math.MinInt32, -1 << 20, math.MaxInt32, math.MaxInt32 + 1, 1 << 32, 1<<32 + 1, 1 << 40, math.MaxInt - 1, math.MaxInt}

// beyond are numbers of which there is none, where there are 0, 1 .. up to n less one.
func beyond(n int) []int {
	return append([]int{-3, -2, -1, n, n + 1, n + 2, 1 << 20, 1<<20 + 1}, extremes...)
}

// numbers are all of which there is one, and those beyond.
func numbers(n int) []int {
	ns := beyond(n)
	for i := range n {
		ns = append(ns, i)
	}
	return ns
}

// model is a table that searches for all it tells: of each block its place, or -1.
type model struct {
	at     []int
	places int
}

func modelOf(blocks, places int) *model {
	return &model{slices.Repeat([]int{-1}, blocks), places}
}

func (m *model) put(id, place int) bool {
	if id < 0 || id >= len(m.at) || place < 0 || place >= m.places {
		return false
	}
	if there := slices.Index(m.at, place); there >= 0 && there != id {
		return false
	}
	m.at[id] = place
	return true
}

func (m *model) drop(id int) bool {
	was := id >= 0 && id < len(m.at) && m.at[id] >= 0
	if was {
		m.at[id] = -1
	}
	return was
}

// pairs are blocks that are anywhere, rising, each with its place behind it.
func (m *model) pairs() []int {
	var list []int
	for id, place := range m.at {
		if place >= 0 {
			list = append(list, id, place)
		}
	}
	return list
}

// told is what is told of all: blocks, each with its place behind it.
func told(x *Table) []int {
	var list []int
	for id, place := range x.All() {
		list = append(list, id, place)
	}
	return list
}

// built is a table, and its model, with blocks put at places: numbers of blocks, each with its place behind it.
func built(t *testing.T, blocks, places int, pairs ...int) (*Table, *model) {
	t.Helper()
	x, m := New(blocks, places), modelOf(blocks, places)
	for pair := range slices.Chunk(pairs, 2) {
		if !x.Put(pair[0], pair[1]) || !m.put(pair[0], pair[1]) {
			t.Fatalf("Put(%d, %d): false", pair[0], pair[1])
		}
	}
	return x, m
}

// finds asks At, or Owner, for what is there: -1 of nothing.
func finds(t *testing.T, ask func(int) (int, bool), name string, n, want int) {
	t.Helper()
	got, ok := ask(n)
	if want < 0 && (got != 0 || ok) {
		t.Fatalf("%s(%d): %d, %v, want 0, false", name, n, got, ok)
	}
	if want >= 0 && (got != want || !ok) {
		t.Fatalf("%s(%d): %d, %v, want %d, true", name, n, got, ok, want)
	}
}

// holds asks a table for all that it can tell, of what there is and of what there is not.
func holds(t *testing.T, x *Table, m *model) {
	t.Helper()
	want := m.pairs()
	if got := x.Len(); got != len(want)/2 {
		t.Fatalf("Len: %d, want %d", got, len(want)/2)
	}
	if got := told(x); !slices.Equal(got, want) {
		t.Fatalf("All: %v, want %v", got, want)
	}
	for id, place := range m.at {
		finds(t, x.At, "At", id, place)
	}
	taken := 0
	for place := range m.places {
		finds(t, x.Owner, "Owner", place, slices.Index(m.at, place))
		if _, ok := x.Owner(place); ok {
			taken++
		}
	}
	if taken != x.Len() {
		t.Fatalf("%d places with a block, %d blocks with a place", taken, x.Len())
	}
	for _, n := range beyond(len(m.at)) {
		finds(t, x.At, "At", n, -1)
	}
	for _, n := range beyond(m.places) {
		finds(t, x.Owner, "Owner", n, -1)
	}
}

func TestG1ExampleOfTheChapter(t *testing.T) {
	x := New(10, 10)
	if !x.Put(3, 7) || !x.Put(3, 8) {
		t.Fatal("Put: false")
	}
	finds(t, x.Owner, "Owner", 7, -1)
	finds(t, x.Owner, "Owner", 8, 3)
	finds(t, x.At, "At", 3, 8)
}

// sizes are numbers that New may be handed, each with how many there are then.
var sizes = []struct{ n, want int }{
	{math.MinInt, 0}, {math.MinInt32, 0}, {-1 << 20, 0}, {-2, 0}, {-1, 0}, {0, 0},
	{1, 1}, {2, 2}, {3, 3}, {1000, 1000}, {1<<20 - 1, 1<<20 - 1}, {1 << 20, 1 << 20},
	{1<<20 + 1, 1 << 20}, {1 << 21, 1 << 20}, {1 << 32, 1 << 20}, {1<<32 + 1, 1 << 20}, {1 << 62, 1 << 20}, {math.MaxInt, 1 << 20},
}

func TestG1NewHasSoManyBlocksAndPlaces(t *testing.T) {
	for _, b := range sizes {
		for _, p := range sizes {
			x := New(b.n, p.n)
			if x.Len() != 0 || len(told(x)) != 0 {
				t.Fatalf("New(%d, %d): not empty", b.n, p.n)
			}
			for _, id := range []int{-1, 0, b.want - 1, b.want, b.want + 1} {
				for _, place := range []int{-1, 0, p.want - 1, p.want, p.want + 1} {
					finds(t, x.At, "At", id, -1)
					finds(t, x.Owner, "Owner", place, -1)
					want := id >= 0 && id < b.want && place >= 0 && place < p.want
					if got := x.Put(id, place); got != want {
						t.Fatalf("New(%d, %d): Put(%d, %d): %v", b.n, p.n, id, place, got)
					}
					if got := x.Drop(id); got != want {
						t.Fatalf("New(%d, %d): Drop(%d): %v", b.n, p.n, id, got)
					}
				}
			}
		}
	}
}

func TestG1AtFirstNoneIsAnywhere(t *testing.T) {
	for _, c := range []struct{ blocks, places int }{{0, 0}, {0, 5}, {5, 0}, {1, 1}, {1, 9}, {9, 1}, {7, 7}} {
		holds(t, New(c.blocks, c.places), modelOf(c.blocks, c.places))
	}
	for _, x := range []*Table{New(1<<20, 1<<20), New(1<<40, math.MaxInt)} {
		for n := range 1<<20 + 1 {
			finds(t, x.At, "At", n, -1)
			finds(t, x.Owner, "Owner", n, -1)
		}
	}
}

func TestG1NoBlocksOrNoPlaces(t *testing.T) {
	for _, c := range []struct{ blocks, places int }{{0, 0}, {-1, 5}, {0, 5}, {5, 0}, {5, -1}, {-7, -7}} {
		x, m := New(c.blocks, c.places), modelOf(max(c.blocks, 0), max(c.places, 0))
		for _, id := range numbers(6) {
			for _, place := range numbers(6) {
				if x.Put(id, place) {
					t.Fatalf("New(%d, %d): Put(%d, %d)", c.blocks, c.places, id, place)
				}
			}
			if x.Drop(id) {
				t.Fatalf("New(%d, %d): Drop(%d)", c.blocks, c.places, id)
			}
		}
		holds(t, x, m)
	}
}

func TestG1PutOfWhatThereIsNot(t *testing.T) {
	for _, c := range []struct{ blocks, places int }{{4, 9}, {9, 4}, {5, 5}} { // of one kind there are more than of the other
		x, m := built(t, c.blocks, c.places, 3, 1, 0, 3)
		refused := func(id, place int) {
			t.Helper()
			if x.Put(id, place) {
				t.Fatalf("Put(%d, %d): true", id, place)
			}
			holds(t, x, m)
		}
		for _, id := range beyond(c.blocks) {
			for place := range c.places { // with a block, or without
				refused(id, place)
			}
			for _, place := range beyond(c.places) {
				refused(id, place)
			}
		}
		for id := range c.blocks { // that is anywhere, or not
			for _, place := range beyond(c.places) {
				refused(id, place)
			}
		}
	}
}

func TestG1PutWhereAnotherBlockIs(t *testing.T) {
	x, m := built(t, 5, 6, 0, 0, 2, 5, 3, 1)
	for _, c := range []struct{ id, place int }{
		{1, 0}, {1, 5}, {1, 1}, {4, 0}, {4, 5}, // one that is nowhere
		{2, 0}, {3, 0}, {0, 5}, {3, 5}, {0, 1}, {2, 1}, // one that is elsewhere
	} {
		if x.Put(c.id, c.place) {
			t.Fatalf("Put(%d, %d): true", c.id, c.place)
		}
		holds(t, x, m)
	}
	if !x.Drop(2) || !m.drop(2) || !x.Put(3, 5) || !m.put(3, 5) { // there is none any more
		t.Fatal("behind Drop")
	}
	holds(t, x, m)
}

func TestG1PutWhereItIs(t *testing.T) {
	x, m := built(t, 4, 5, 0, 0, 3, 4, 1, 2) // also the first one at the first place, the last one at the last
	for range 3 {
		for _, c := range []struct{ id, place int }{{3, 4}, {0, 0}, {1, 2}} {
			if !x.Put(c.id, c.place) {
				t.Fatalf("Put(%d, %d): false", c.id, c.place)
			}
			holds(t, x, m)
		}
	}
	if !x.Drop(3) || x.Drop(3) { // it was there but once
		t.Fatal("Drop")
	}
	m.drop(3)
	holds(t, x, m)
}

func TestG1PutElsewhereLeavesItsOldPlace(t *testing.T) {
	x, m := built(t, 4, 5, 0, 0, 1, 1, 2, 2)
	for i, c := range []struct{ id, place int }{
		{0, 4}, {1, 0}, {2, 1}, {3, 2}, {0, 3}, {1, 4}, {1, 0}, {1, 4}, // to places that others left, and that it left itself
	} {
		old, was := x.At(c.id)
		if !x.Put(c.id, c.place) || !m.put(c.id, c.place) {
			t.Fatalf("%d: Put(%d, %d): false", i, c.id, c.place)
		}
		if was {
			finds(t, x.Owner, "Owner", old, -1)
		}
		holds(t, x, m)
	}
}

func TestG1OneBlockAtEachPlaceInTurn(t *testing.T) {
	for places := 1; places <= 40; places++ {
		x := New(3, places)
		for place := range places {
			if !x.Put(1, place) || x.Len() != 1 {
				t.Fatalf("Put(1, %d) of %d", place, places)
			}
			if got := told(x); !slices.Equal(got, []int{1, place}) {
				t.Fatalf("All: %v", got)
			}
			for other := range places {
				want := -1
				if other == place {
					want = 1
				}
				finds(t, x.Owner, "Owner", other, want)
			}
		}
	}
}

func TestG1Drop(t *testing.T) {
	x, m := built(t, 5, 5, 0, 4, 4, 0, 2, 2)
	for i, c := range []struct {
		id   int
		want bool
	}{
		{1, false}, {3, false}, {5, false}, {-1, false}, // nowhere, and none
		{2, true}, {2, false}, {0, true}, {0, false}, {4, true}, {4, false}, // the first, the last, and again
	} {
		if got := x.Drop(c.id); got != c.want || m.drop(c.id) != c.want {
			t.Fatalf("%d: Drop(%d): %v", i, c.id, got)
		}
		holds(t, x, m)
	}
	if !x.Put(2, 4) || !m.put(2, 4) || !x.Put(0, 2) || !m.put(0, 2) { // what they left is free, and they may come again
		t.Fatal("behind Drop")
	}
	holds(t, x, m)
}

func TestG1DropOfWhatThereIsNot(t *testing.T) {
	for _, c := range []struct{ blocks, places int }{{4, 9}, {9, 4}, {1, 1}} {
		x, m := built(t, c.blocks, c.places, 0, c.places-1)
		for _, id := range beyond(c.blocks) {
			if x.Drop(id) {
				t.Fatalf("Drop(%d): true", id)
			}
			holds(t, x, m)
		}
	}
}

func TestG1LenBehindEachStep(t *testing.T) {
	x := New(4, 5)
	for i, c := range []struct {
		id, place int // below -8 the block is dropped
		want      bool
		count     int
	}{
		{0, 3, true, 1}, {0, 3, true, 1}, {0, 0, true, 1}, {1, 0, false, 1}, {1, 3, true, 2}, {0, 3, false, 2},
		{4, 1, false, 2}, {-1, 1, false, 2}, {2, 5, false, 2}, {2, -1, false, 2}, {0, 5, false, 2}, {1, -1, false, 2},
		{2, -9, false, 2}, {4, -9, false, 2}, {-1, -9, false, 2}, {3, 4, true, 3}, {2, 1, true, 4}, {2, 2, true, 4},
		{0, -9, true, 3}, {0, -9, false, 3}, {2, 0, true, 3}, {0, 2, true, 4},
		{0, -9, true, 3}, {1, -9, true, 2}, {2, -9, true, 1}, {3, -9, true, 0}, {3, -9, false, 0}, {3, 3, true, 1},
	} {
		ok := false
		if c.place < -8 {
			ok = x.Drop(c.id)
		} else {
			ok = x.Put(c.id, c.place)
		}
		if got := x.Len(); ok != c.want || got != c.count {
			t.Fatalf("step %d: %v, Len %d, want %v, %d", i, ok, got, c.want, c.count)
		}
	}
}

func TestG1AllRisesWhateverTheOrderOfPut(t *testing.T) {
	for _, c := range []struct{ put, want []int }{
		{nil, nil}, // none
		{[]int{0, 0}, []int{0, 0}},
		{[]int{5, 0}, []int{5, 0}},
		{[]int{5, 5, 3, 3, 0, 0}, []int{0, 0, 3, 3, 5, 5}},
		{[]int{5, 0, 3, 3, 0, 5}, []int{0, 5, 3, 3, 5, 0}}, // places fall
		{[]int{2, 6, 4, 1, 1, 3, 5, 2}, []int{1, 3, 2, 6, 4, 1, 5, 2}},
		{[]int{0, 1, 1, 2, 2, 3, 3, 4, 4, 5, 5, 6}, []int{0, 1, 1, 2, 2, 3, 3, 4, 4, 5, 5, 6}}, // all
		{[]int{5, 0, 4, 1, 3, 2, 2, 3, 1, 4, 0, 5}, []int{0, 5, 1, 4, 2, 3, 3, 2, 4, 1, 5, 0}},
		{[]int{0, 0, 1, 1, 0, 6, 1, 0, 0, 1}, []int{0, 1, 1, 0}}, // those that went on
	} {
		x, _ := built(t, 6, 7, c.put...)
		if got := told(x); !slices.Equal(got, c.want) {
			t.Errorf("Put %v: All: %v, want %v", c.put, got, c.want)
		}
	}
}

func TestG1WhoStopsIsToldNoMore(t *testing.T) {
	x, m := built(t, 8, 8, 6, 0, 1, 7, 3, 3, 4, 1, 7, 6)
	want := m.pairs()
	for stop := 1; stop <= len(want)/2; stop++ {
		var got []int
		x.All()(func(id, place int) bool {
			if len(got) >= 2*stop {
				t.Fatalf("told on behind %d", stop)
			}
			got = append(got, id, place)
			return len(got) < 2*stop
		})
		if !slices.Equal(got, want[:2*stop]) {
			t.Errorf("stopped at %d: %v", stop, got)
		}
	}
	seen := 0
	for id := range x.All() {
		if seen++; id == 3 {
			break
		}
	}
	if seen != 2 {
		t.Errorf("broke off behind %d", seen)
	}
	holds(t, x, m)
}

func TestG1AllMayBeToldAgain(t *testing.T) {
	x, m := built(t, 6, 6, 4, 0, 2, 5, 0, 3)
	seq := x.All()
	for range seq {
		break
	}
	for range 2 { // also to one who stopped ahead
		var got []int
		for id, place := range seq {
			got = append(got, id, place)
		}
		if !slices.Equal(got, m.pairs()) {
			t.Fatalf("told again: %v", got)
		}
	}
	text := ""
	for a := range seq {
		for b := range x.All() { // one within another
			text += strconv.Itoa(a) + strconv.Itoa(b) + " "
		}
	}
	if text != "00 02 04 20 22 24 40 42 44 " {
		t.Errorf("pairs: %q", text)
	}
}

func TestG1ChangesWhileAllIsTold(t *testing.T) {
	x, _ := built(t, 6, 9, 0, 0, 1, 1, 3, 3, 5, 5)
	seq := x.All()
	x.Drop(0) // behind All, and ahead of the range
	var got []int
	for id, place := range seq {
		got = append(got, id, place)
		switch id {
		case 1:
			x.Drop(1) // told already
			x.Put(0, 0)
			x.Put(2, 1)
			x.Put(3, 8) // to be told
		case 3:
			x.Drop(5)
		}
	}
	if want := []int{1, 1, 2, 1, 3, 8}; !slices.Equal(got, want) {
		t.Errorf("told %v, want %v", got, want)
	}
	if after := told(x); !slices.Equal(after, []int{0, 0, 2, 1, 3, 8}) || x.Len() != 3 {
		t.Errorf("behind the range: %v, %d", after, x.Len())
	}
	for id := range x.All() {
		x.Drop(id)
	}
	holds(t, x, modelOf(6, 9))
}

// eachState is all ways in which blocks can be at places.
func eachState(blocks, places int) []*model {
	if blocks == 0 {
		return []*model{modelOf(0, places)}
	}
	var list []*model
	for _, less := range eachState(blocks-1, places) {
		for place := -1; place < places; place++ {
			if place < 0 || !slices.Contains(less.at, place) {
				list = append(list, &model{append(slices.Clone(less.at), place), places})
			}
		}
	}
	return list
}

func TestG1EachStepFromEachState(t *testing.T) {
	for _, c := range []struct{ blocks, places, states int }{{1, 1, 2}, {2, 3, 13}, {3, 2, 13}, {3, 3, 34}, {2, 4, 21}, {4, 2, 21}} {
		states := eachState(c.blocks, c.places)
		if len(states) != c.states {
			t.Fatalf("%d states, want %d", len(states), c.states)
		}
		for _, s := range states {
			for id := -1; id <= c.blocks; id++ {
				for place := -2; place <= c.places; place++ { // -2: the block is dropped
					x, m := built(t, c.blocks, c.places, s.pairs()...)
					got, want := false, false
					if place == -2 {
						got, want = x.Drop(id), m.drop(id)
					} else {
						got, want = x.Put(id, place), m.put(id, place)
					}
					if got != want {
						t.Fatalf("of %v: block %d, place %d: %v", s.at, id, place, got)
					}
					holds(t, x, m)
				}
			}
		}
	}
}

// TestG1AgainstAModel does many steps with a table and with its model, most of them with numbers of which there is one.
func TestG1AgainstAModel(t *testing.T) {
	state := uint64(88172645463325252)
	next := func(n int) int {
		state ^= state << 13
		state ^= state >> 7
		state ^= state << 17
		return int(state % uint64(n))
	}
	for _, c := range []struct{ blocks, places int }{{1, 1}, {1, 8}, {8, 1}, {5, 5}, {12, 30}, {30, 12}, {40, 41}} {
		x, m := New(c.blocks, c.places), modelOf(c.blocks, c.places)
		for step := range 1500 {
			id, place := next(c.blocks+2)-1, next(c.places+2)-1
			switch next(4) {
			case 0:
				if got := x.Drop(id); got != m.drop(id) {
					t.Fatalf("step %d: Drop(%d): %v", step, id, got)
				}
			default:
				if got := x.Put(id, place); got != m.put(id, place) {
					t.Fatalf("step %d: Put(%d, %d): %v", step, id, place, got)
				}
			}
			holds(t, x, m)
		}
	}
}

func TestG1GreatestTable(t *testing.T) {
	const all = 1 << 20
	x := New(all, all)
	for id := range all { // 12347 is odd: no two are one place
		if place := id * 12347 % all; !x.Put(id, place) || x.Len() != id+1 {
			t.Fatalf("Put(%d, %d)", id, place)
		}
	}
	if x.Put(0, all-1) || x.Put(all, 0) || x.Put(0, all) {
		t.Fatal("Put: true")
	}
	at := 0
	for id, place := range x.All() {
		if id != at || place != id*12347%all {
			t.Fatalf("All: %d, %d", id, place)
		}
		finds(t, x.At, "At", id, place)
		finds(t, x.Owner, "Owner", place, id)
		at++
	}
	for id := 0; id < all; id += 2 {
		if !x.Drop(id) {
			t.Fatalf("Drop(%d)", id)
		}
	}
	if at != all || x.Len() != all/2 || !x.Put(all-1, 0) {
		t.Errorf("%d told, Len %d", at, x.Len())
	}
	finds(t, x.Owner, "Owner", (all-1)*12347%all, -1)
}

func TestG1TablesHaveNothingToDoWithEachOther(t *testing.T) {
	a, ofA := built(t, 4, 4, 0, 1, 2, 3)
	b, ofB := built(t, 4, 4, 0, 0, 1, 1)
	c, ofC := built(t, 6, 2)
	for id := range a.All() {
		if !b.Put(id, 2+id/2) || !ofB.put(id, 2+id/2) { // while a is told
			t.Fatal(id)
		}
	}
	if !a.Drop(2) || !ofA.drop(2) || !c.Put(5, 1) || !ofC.put(5, 1) {
		t.Fatal("steps")
	}
	holds(t, a, ofA)
	holds(t, b, ofB)
	holds(t, c, ofC)
}

func TestG1AskingChangesNothing(t *testing.T) {
	x, m := built(t, 5, 7, 4, 0, 0, 6, 2, 3)
	for range 2 {
		for _, n := range numbers(8) {
			x.At(n)
			x.Owner(n)
			x.Len()
			for range x.All() {
				break
			}
		}
		holds(t, x, m)
	}
}
