package replay

import (
	"math"
	"slices"
	"testing"

	"harrow/api"
	"harrow/device"
	"harrow/journal"
	"harrow/tag"
)

// at is a list of places, one for each block.
func at(places ...int) []int { return places }

func TestI1ExampleOfTheChapter(t *testing.T) {
	for _, c := range []struct{ places, blocks int }{{20, 5}, {1, 1}, {1, 3840}, {19999, 1}, {19999, 3840}} {
		want := journal.State{Epoch: 1, Start: 1, Seq: 0, At: none(c.blocks)}
		if got := scanned(t, deviceOf(t, c.places+1), c.places, c.blocks); !same(got, want) {
			t.Errorf("%+v: %+v", c, brief(got))
		}
	}
}

func TestI1Places(t *testing.T) {
	for _, sectors := range []int{1, 2, 3, 21, 20000} {
		d := deviceOf(t, sectors)
		for _, places := range []int{math.MinInt, math.MinInt + 1, math.MinInt32, -20000, -sectors, 1 - sectors, -2, -1, 0, 1, 2, sectors - 2, sectors - 1, sectors, sectors + 1, 20001, 1 << 32, 1<<32 + 1, math.MaxInt - 1, math.MaxInt} {
			was := d.Counts()
			if places >= 1 && places < sectors {
				scanned(t, d, places, 5)
				continue
			}
			refused(t, d, places, 5, api.ErrArg)
			if d.Counts() != was {
				t.Fatalf("%d places: the device was asked", places)
			}
		}
	}
}

func TestI1Blocks(t *testing.T) {
	d := laid(t, 20, map[int]tag.Tag{3: T(1, 1, 1, 0, 0, 1, 0)})
	for _, blocks := range []int{math.MinInt, math.MinInt + 1, math.MinInt32, -3840, -5, -2, -1, 0, 1, 2, 3839, 3840, 3841, 3842, 5000, 1 << 20, 1 << 32, 1<<32 + 1, math.MaxInt - 1, math.MaxInt} {
		was := d.Counts()
		if blocks >= 1 && blocks <= 3840 {
			want := journal.State{Epoch: 2, Start: 2, Seq: 1, Head: 4, Used: 1, At: none(blocks)}
			want.At[0] = 3
			tells(t, d, 20, want)
			continue
		}
		refused(t, d, 20, blocks, api.ErrArg)
		if d.Counts() != was {
			t.Fatalf("%d blocks: the device was asked", blocks)
		}
	}
}

func TestI1ArgumentsAheadOfAllElse(t *testing.T) {
	d := laid(t, 20, map[int]tag.Tag{3: T(math.MaxUint32, 1, maxSeq, maxSeq-1, 0, 1, 0)})
	wrong := func() {
		t.Helper()
		for _, c := range [][2]int{{0, 5}, {-1, 5}, {23, 5}, {20, 0}, {20, -1}, {20, 3841}, {0, 0}, {23, 3841}, {math.MinInt, math.MinInt}, {math.MaxInt, math.MaxInt}} {
			refused(t, d, c[0], c[1], api.ErrArg)
		}
	}
	wrong() // ahead of ErrState
	was := d.Counts()
	d.Arm(0, nil)
	wrong()
	if d.Down() {
		t.Fatal("the device was asked")
	}
	d.Crash(nil)
	wrong()
	if d.Counts() != was || !d.Down() {
		t.Fatal("the device was asked")
	}
	refused(t, nil, 20, 5, api.ErrArg)
	refused(t, nil, 0, 0, api.ErrArg)
	refused(t, &device.Device{}, 1, 1, api.ErrArg)
}

func TestI1DownAhead(t *testing.T) {
	for _, x := range []tag.Tag{T(1, 1, 1, 0, 0, 1, 0), T(math.MaxUint32, 1, 1, 0, 0, 1, 0), T(1, 1, maxSeq, maxSeq-1, 0, 1, 0)} { // also ahead of ErrState
		d := laid(t, 20, map[int]tag.Tag{19: x})
		d.Crash(nil)
		was := d.Counts()
		refused(t, d, 20, 5, api.ErrDown)
		refused(t, d, 1, 1, api.ErrDown)
		if d.Counts() != was || !d.Down() {
			t.Fatal("the device was started, or asked")
		}
	}
}

func TestI1DownAtEachRead(t *testing.T) {
	const places = 12
	tags := map[int]tag.Tag{0: T(1, 1, 1, 0, 0, 2, 1), 1: T(1, 1, 1, 0, 1, 2, 0), 11: T(math.MaxUint32, 1, 1, 0, 0, 1, 0)}
	for n := range places {
		d := laid(t, places, tags)
		if n%2 == 0 {
			tear(t, d, n) // the place ahead of it
		}
		was := d.Counts()
		was.Reads += n
		d.Arm(n, nil)
		refused(t, d, places, 4, api.ErrDown)
		if d.Counts() != was || !d.Down() {
			t.Fatalf("down at %d: %+v, want %+v", n, d.Counts(), was)
		}
		refused(t, d, places, 4, api.ErrDown)
	}
	delete(tags, 11)
	d := laid(t, places, tags)
	d.Arm(places, nil)
	s, err := Scan(d, places, 4)
	if err != api.OK || d.Down() || !slices.Equal(s.At, at(1, 0, -1, -1)) {
		t.Fatal(s, err)
	}
	refused(t, d, places, 4, api.ErrDown) // now its time has come
	d.Start()
	tells(t, d, places, s)
}

func TestI1ACrashTakesWhatWaits(t *testing.T) {
	d := laid(t, 6, map[int]tag.Tag{0: T(1, 1, 1, 0, 0, 1, 0)})
	put(t, d, 2, sectorOf(t, T(1, 1, 2, 1, 0, 1, 1)))
	tells(t, d, 6, journal.State{Epoch: 2, Start: 3, Seq: 2, Head: 2, Used: 2, At: at(0, 1)}) // what waits is read, too
	d.Arm(3, nil)
	refused(t, d, 6, 2, api.ErrDown) // though that was read ahead of the crash
	d.Start()
	tells(t, d, 6, journal.State{Epoch: 2, Start: 2, Seq: 1, Head: 1, Used: 1, At: at(0, -1)}) // nobody had flushed it
}

func TestI1SectorsThatAreNoPlaces(t *testing.T) {
	tags := map[int]tag.Tag{0: T(1, 1, 1, 0, 0, 2, 0), 9: T(1, 1, 1, 0, 1, 2, 1), 4: T(7, 1, 7, 6, 0, 1, 2)}
	d := laid(t, 10, tags)
	tells(t, d, 10, journal.State{Epoch: 8, Start: 8, Seq: 7, Head: 5, Used: 1, At: at(-1, -1, 4)})
	tells(t, d, 4, journal.State{Epoch: 2, Start: 1, Seq: 0, At: none(3)}) // fewer places: that of 1 lacks one
	tells(t, d, 1, journal.State{Epoch: 2, Start: 1, Seq: 0, At: none(3)})
	d = laid(t, 1, map[int]tag.Tag{0: T(1, 1, 1, 0, 0, 1, 0)})
	tells(t, d, 1, journal.State{Epoch: 2, Start: 2, Seq: 1, Head: 0, Used: 1, At: at(0)})
}

func TestI1PlacesThatTellNothing(t *testing.T) {
	last := T(9, 3, 9, 8, 0, 1, 4)         // it would be all that there is
	for _, place := range []int{4, 0, 9} { // whatever there is ahead of it, or behind
		tags := map[int]tag.Tag{5: T(1, 1, 3, 2, 0, 2, 0), 6: T(1, 1, 3, 2, 1, 2, 1)}
		want := journal.State{Epoch: 2, Start: 4, Seq: 3, Head: 7, Used: 2, At: at(5, 6, -1, -1, -1)}
		tells(t, laid(t, 10, tags), 10, want)
		tags[place] = last
		tells(t, laid(t, 10, tags), 10, journal.State{Epoch: 10, Start: 10, Seq: 9, Head: (place + 1) % 10, Used: 1, At: at(-1, -1, -1, -1, place)})

		d := laid(t, 10, tags)
		tear(t, d, place+1)
		tells(t, d, 10, want)
		put(t, d, place+1, sectorOf(t, last)) // it waits, and can be read
		tells(t, d, 10, journal.State{Epoch: 10, Start: 10, Seq: 9, Head: (place + 1) % 10, Used: 1, At: at(-1, -1, -1, -1, place)})

		want.At = want.At[:4] // there is no such block
		tells(t, laid(t, 10, tags), 10, want)
		want.At = want.At[:2]
		tells(t, laid(t, 10, tags), 10, want)

		good := sectorOf(t, last)
		for _, i := range []int{0, 3, 4, 26, 27, 30, 31} { // no tag any more: the word, Epoch 0, Index 1 of 1, Count 0, the noughts
			bad := slices.Clone(good)
			bad[i] ^= 9
			if i == 26 || i == 27 {
				bad[i] = good[i] ^ 1
			}
			d := laid(t, 10, tags)
			put(t, d, place+1, bad)
			want := want
			want.At = at(5, 6, -1, -1, -1)
			tells(t, d, 10, want)
		}
	}
}

func TestI1BlocksThatThereAreNot(t *testing.T) {
	for _, id := range []int{0, 1, 2, 3, 254, 255, 256, 257, 3838, 3839} {
		d := laid(t, 8, map[int]tag.Tag{6: T(5, 2, 4, 3, 0, 1, id)})
		for _, blocks := range []int{1, id, id + 1, id + 2, 3840} {
			if blocks < 1 || blocks > 3840 {
				continue
			}
			want := journal.State{Epoch: 1, Start: 1, At: none(blocks)}
			if id < blocks {
				want = journal.State{Epoch: 6, Start: 5, Seq: 4, Head: 7, Used: 1, At: none(blocks)}
				want.At[id] = 6
			}
			tells(t, d, 8, want)
		}
	}
	tags := map[int]tag.Tag{1: T(1, 1, 4, 3, 0, 2, 0), 2: T(1, 1, 4, 3, 1, 2, 3)} // the second one of its batch is none
	tells(t, laid(t, 8, tags), 8, journal.State{Epoch: 2, Start: 4, Seq: 3, At: none(3)})
	tells(t, laid(t, 8, tags), 8, journal.State{Epoch: 2, Start: 5, Seq: 4, Head: 3, Used: 2, At: at(1, -1, -1, 2)})
	tags = map[int]tag.Tag{1: T(1, 1, 4, 3, 0, 1, 0), 2: T(2, 1, 4, 0, 1, 2, 3)} // it makes nothing stale
	tells(t, laid(t, 8, tags), 8, journal.State{Epoch: 2, Start: 5, Seq: 4, Head: 2, Used: 1, At: at(1, -1, -1)})
	tells(t, laid(t, 8, tags), 8, journal.State{Epoch: 3, Start: 4, Seq: 3, At: none(4)})
}

// orders has each tag at a place of its own, in each order of the places.
func orders(t *testing.T, tags []tag.Tag, do func(d *device.Device)) {
	t.Helper()
	var lay func(free []int, places map[int]tag.Tag)
	lay = func(free []int, places map[int]tag.Tag) {
		if len(places) == len(tags) {
			do(laid(t, len(tags), places))
			return
		}
		for i, place := range free {
			places[place] = tags[len(places)]
			lay(slices.Delete(slices.Clone(free), i, i+1), places)
			delete(places, place)
		}
	}
	free := make([]int, len(tags))
	for i := range free {
		free[i] = i
	}
	lay(free, map[int]tag.Tag{})
}

// wholeOf asks, in each order of the places, whether the batch behind the floor is whole.
func wholeOf(t *testing.T, floor uint64, whole bool, tags ...tag.Tag) {
	t.Helper()
	seq := floor
	if whole {
		seq++
	}
	orders(t, tags, func(d *device.Device) {
		t.Helper()
		if s := agrees(t, d, len(tags), 12); s.Seq != seq || s.Start != seq+1 {
			t.Fatalf("%+v: %+v, want Seq %d", tags, s, seq)
		}
	})
}

func TestI1StaleFromStartOn(t *testing.T) {
	old := T(1, 1, 10, 9, 0, 1, 0)
	other := func(epoch uint32, start uint64) tag.Tag { return T(epoch, start, 20, 0, 0, 2, 1) }
	for _, c := range []struct {
		epoch uint32
		start uint64
		stale bool
	}{
		{2, 9, true}, {2, 10, true}, {2, 11, false}, {2, 12, false}, {2, 1, true}, {2, 20, false},
		{3, 10, true}, {3, 11, false}, {math.MaxUint32 - 1, 10, true}, {math.MaxUint32 - 1, 11, false}, {256, 10, true}, {1 << 31, 10, true}, // any greater epoch
		{1, 1, false}, {1, 10, false}, {1, 11, false}, // its own
	} {
		wholeOf(t, 9, !c.stale, old, other(c.epoch, c.start))
	}
	for _, epoch := range []uint32{1, 2, 255, 256} { // of a less epoch
		newer := old
		newer.Epoch = 300
		wholeOf(t, 9, true, newer, other(epoch, 1))
		wholeOf(t, 9, true, newer, other(epoch, 10))
	}
	wholeOf(t, 9, true, old) // alone: its own Start is not above its Seq
	old.Start = 10
	wholeOf(t, 9, true, old)
}

func TestI1StaleByAnyOfSeveralEpochs(t *testing.T) {
	old := T(2, 1, 10, 9, 0, 1, 0)
	other := func(epoch uint32, start, seq uint64) tag.Tag { return T(epoch, start, seq, 0, 0, 2, 1) }
	wholeOf(t, 9, false, old, other(3, 10, 20), other(4, 11, 20))                   // by the one between
	wholeOf(t, 9, false, old, other(3, 11, 20), other(4, 10, 20))                   // by the greatest one
	wholeOf(t, 9, false, old, other(3, 4, 20), other(4, 11, 20), other(5, 15, 20))  // by the first one
	wholeOf(t, 9, false, old, other(3, 12, 20), other(4, 10, 20), other(5, 15, 20)) // by that in the midst
	wholeOf(t, 9, true, old, other(3, 12, 20), other(4, 11, 20), other(5, 15, 20))  // by none
	wholeOf(t, 9, true, old, other(1, 4, 20), other(3, 11, 20), other(4, 15, 20))   // one that is less
	wholeOf(t, 9, false, old, other(3, 10, 12), other(4, 12, 20))                   // by one that is stale itself
	wholeOf(t, 9, false, old, other(3, 10, 12), other(4, 12, 20), other(5, 20, 20)) // and stale by one that is stale
	wholeOf(t, 9, true, old, other(3, 11, 12), other(4, 12, 20), other(5, 20, 20))
	wholeOf(t, 9, false, old, other(3, 11, 20), other(3, 10, 20)) // of one epoch with unlike starts: each counts
	wholeOf(t, 9, false, old, other(3, 12, 20), other(3, 10, 20), other(3, 11, 20))
	wholeOf(t, 9, true, old, other(3, 12, 20), other(3, 11, 20), other(3, 13, 20))
	wholeOf(t, 9, false, old, other(3, 15, 20), other(3, 3, 20), other(300, 11, 20))
}

func TestI1StaleAtTheGreatestNumbers(t *testing.T) {
	old := T(1, 1, maxSeq, maxSeq-1, 0, 1, 0)
	orders(t, []tag.Tag{old, T(2, maxSeq, maxSeq, 0, 0, 2, 1)}, func(d *device.Device) {
		if s := agrees(t, d, 2, 3); !same(s, journal.State{Epoch: 3, Start: maxSeq, Seq: maxSeq - 1, At: none(3)}) {
			t.Error(s)
		}
	})
	orders(t, []tag.Tag{old, T(1, maxSeq, maxSeq, 0, 1, 2, 1)}, func(d *device.Device) { // true, both: of unlike counts
		if s := agrees(t, d, 2, 3); s.Seq != maxSeq-1 {
			t.Error(s)
		}
	})
	for _, epoch := range []uint32{1, 2} { // true, and whole
		old.Epoch = epoch
		refused(t, laid(t, 2, map[int]tag.Tag{0: old}), 2, 3, api.ErrState)
	}
}

func TestI1WhatIsStaleTellsNoBlock(t *testing.T) {
	tags := map[int]tag.Tag{
		2: T(1, 1, 4, 3, 0, 2, 0), 3: T(1, 1, 4, 3, 1, 2, 1), 4: T(1, 1, 5, 4, 0, 3, 0), 5: T(1, 1, 5, 4, 2, 3, 2), // 5 lacks one
	}
	tells(t, laid(t, 10, tags), 10, journal.State{Epoch: 2, Start: 5, Seq: 4, Head: 4, Used: 2, At: at(2, 3, -1)})
	tags[6] = T(2, 5, 5, 4, 2, 4, 1) // 5 again, from another mount
	tells(t, laid(t, 10, tags), 10, journal.State{Epoch: 3, Start: 5, Seq: 4, Head: 4, Used: 2, At: at(2, 3, -1)})
	tags[7] = T(2, 5, 6, 5, 0, 1, 1) // it tells that 5 was flushed
	tells(t, laid(t, 10, tags), 10, journal.State{Epoch: 3, Start: 7, Seq: 6, Head: 8, Used: 6, At: at(2, 7, -1)})
	tags[7] = T(2, 5, 7, 5, 0, 1, 1) // of 5 itself one is left; by it goes the head
	tells(t, laid(t, 10, tags), 10, journal.State{Epoch: 3, Start: 6, Seq: 5, Head: 8, Used: 6, At: at(2, 6, -1)})
	tags[8] = T(3, 5, 9, 2, 0, 2, 0) // now that is stale, too
	tells(t, laid(t, 10, tags), 10, journal.State{Epoch: 4, Start: 6, Seq: 5, Head: 0, Used: 8, At: at(2, 3, -1)})
}

func TestI1FloorIsThatOfAllTags(t *testing.T) {
	for _, c := range []struct {
		tags []tag.Tag
		seq  uint64
	}{
		{[]tag.Tag{T(1, 1, 9, 3, 1, 2, 0)}, 3},
		{[]tag.Tag{T(1, 1, 9, 0, 1, 2, 0)}, 0},
		{[]tag.Tag{T(1, 1, 9, 8, 1, 2, 0)}, 8},
		{[]tag.Tag{T(1, 1, 9, 3, 1, 2, 0), T(1, 1, 8, 5, 1, 2, 0)}, 5}, // not that of the last batch
		{[]tag.Tag{T(1, 1, 9, 3, 1, 2, 0), T(1, 1, 10, 4, 1, 2, 0), T(1, 1, 11, 2, 1, 2, 0)}, 4},
		{[]tag.Tag{T(1, 1, 9, 7, 1, 2, 0), T(2, 9, 9, 6, 1, 2, 0)}, 7},                         // that of a stale one
		{[]tag.Tag{T(1, 1, 9, 7, 1, 2, 0), T(2, 3, 8, 6, 1, 2, 0), T(3, 2, 4, 3, 1, 2, 1)}, 7}, // though there is but one that is true
		{[]tag.Tag{T(1, 1, 9, 7, 0, 1, 0), T(2, 3, 8, 6, 0, 1, 0), T(3, 2, 4, 3, 0, 1, 1)}, 7}, // though that batch is whole
		{[]tag.Tag{T(1, 1, 7, 6, 0, 1, 0), T(1, 1, 4, 3, 0, 1, 1), T(2, 8, 9, 2, 0, 2, 1)}, 7}, // the one behind the greatest is whole
		{[]tag.Tag{T(1, 1, 9, 7, 0, 1, 0), T(2, 9, 9, 2, 1, 2, 0), T(2, 9, 9, 1, 0, 2, 1)}, 7}, // 9 is whole, but 8 is not there
	} {
		orders(t, c.tags, func(d *device.Device) {
			if s := agrees(t, d, len(c.tags), 4); s.Seq != c.seq || s.Start != c.seq+1 {
				t.Errorf("%+v: %+v", c, s)
			}
		})
	}
}

// of is sectors of the batch 5, of epoch 1 (floor 4), by their indexes.
func of(count int, indexes ...int) []tag.Tag {
	var l []tag.Tag
	for i, index := range indexes {
		l = append(l, T(1, 1, 5, 4, index, count, i))
	}
	return l
}

func TestI1Whole(t *testing.T) {
	for _, c := range []struct {
		tags  []tag.Tag
		whole bool
	}{
		{of(1, 0), true},
		{of(2, 0, 1), true}, {of(2, 0), false}, {of(2, 1), false},
		{of(3, 0, 1, 2), true}, {of(3, 1, 2), false}, {of(3, 0, 2), false}, {of(3, 0, 1), false}, {of(3, 0), false}, {of(3, 1), false}, {of(3, 2), false},
		{of(4, 0, 1, 2, 3), true}, {of(4, 0, 1, 3), false}, {of(4, 1, 2, 3), false}, {of(4, 0, 1, 2), false},
		{of(72, 0, 71), false}, {of(72, 71), false}, {of(72, 0), false},
		// an index twice
		{of(1, 0, 0), true}, {of(1, 0, 0, 0), true}, {of(2, 0, 0), false}, {of(2, 1, 1), false}, {of(2, 0, 0, 1), true}, {of(2, 0, 1, 1), true}, {of(2, 0, 0, 1, 1), true},
		{of(3, 0, 1, 1), false}, {of(3, 0, 0, 2), false}, {of(3, 1, 2, 2), false}, {of(3, 0, 0, 1, 1), false}, {of(3, 2, 2, 1, 0), true},
		// unlike counts
		{slices.Concat(of(1, 0), of(2, 0)), false}, {slices.Concat(of(1, 0), of(2, 1)), false}, {slices.Concat(of(1, 0), of(2, 0, 1)), false},
		{slices.Concat(of(2, 0, 1), of(3, 2)), false}, {slices.Concat(of(2, 0, 1), of(3, 0)), false}, {slices.Concat(of(2, 0, 1), of(3, 1)), false}, {slices.Concat(of(2, 0), of(3, 1)), false},
		{slices.Concat(of(2, 1), of(3, 0)), false}, {slices.Concat(of(3, 0, 1, 2), of(2, 1)), false}, {slices.Concat(of(2, 0, 1), of(72, 71)), false},
		{slices.Concat(of(1, 0), of(2, 1), of(3, 2)), false}, {slices.Concat(of(2, 0, 1), of(3, 0, 1)), false},
	} {
		wholeOf(t, 4, c.whole, c.tags...)
	}
}

func TestI1WholeAsManyAsMayBe(t *testing.T) {
	tags := map[int]tag.Tag{}
	for index := range 72 {
		tags[(index+50)%80] = T(1, 1, 5, 4, index, 72, index)
	}
	s := agrees(t, laid(t, 80, tags), 80, 72)
	if s.Seq != 5 || s.Head != 42 || s.Used != 72 || s.At[0] != 50 || s.At[71] != 41 {
		t.Error(s)
	}
	for index := range 72 {
		place := (index + 50) % 80
		was := tags[place]
		delete(tags, place)
		if s := agrees(t, laid(t, 80, tags), 80, 72); s.Seq != 4 || s.Used != 0 || s.Head != 0 {
			t.Fatalf("without %d: %+v", index, s)
		}
		other := was
		other.Count = 71
		if index == 71 {
			other.Index = 0
		}
		tags[place] = other
		if s := agrees(t, laid(t, 80, tags), 80, 72); s.Seq != 4 {
			t.Fatalf("%d of another count: %+v", index, s)
		}
		d := laid(t, 80, tags)
		put(t, d, place+1, sectorOf(t, was))
		tear(t, d, place+1)
		if s := agrees(t, d, 80, 72); s.Seq != 4 {
			t.Fatalf("%d torn: %+v", index, s)
		}
		tags[place] = was
	}
}

func TestI1WholeOfTrueTagsAlone(t *testing.T) {
	old := func(index, count int) tag.Tag { return T(1, 1, 5, 4, index, count, 7) }
	now := func(index, count int) tag.Tag { return T(2, 5, 5, 4, index, count, index) }
	wholeOf(t, 4, true, now(0, 2), now(1, 2), old(2, 3)) // one sector more, that is stale
	wholeOf(t, 4, true, now(0, 2), now(1, 2), old(0, 2))
	wholeOf(t, 4, true, now(0, 1), old(0, 1))
	wholeOf(t, 4, true, now(0, 1), old(1, 2), old(2, 3))
	wholeOf(t, 4, false, now(0, 2), old(1, 2)) // what lacks is there, but stale
	wholeOf(t, 4, false, now(1, 2), old(0, 2))
	wholeOf(t, 4, false, now(0, 2), old(0, 2), old(1, 2)) // a whole one, that is stale
	wholeOf(t, 4, false, T(1, 1, 5, 4, 0, 1, 0), T(2, 5, 6, 4, 0, 1, 0))
	wholeOf(t, 4, true, T(1, 1, 5, 4, 0, 1, 0), T(2, 6, 6, 4, 0, 1, 0))
}

func TestI1WholeIsAskedOfOneBatch(t *testing.T) {
	wholeOf(t, 4, false, T(1, 1, 5, 4, 0, 2, 0), T(1, 1, 6, 3, 1, 2, 1)) // the rest is of another one
	wholeOf(t, 4, false, T(1, 1, 5, 4, 0, 2, 0), T(1, 1, 4, 3, 1, 2, 1))
	wholeOf(t, 4, true, T(1, 1, 5, 4, 0, 1, 0), T(1, 1, 6, 4, 1, 3, 1), T(1, 1, 4, 3, 0, 2, 1)) // what others lack
	wholeOf(t, 4, false, T(1, 1, 6, 4, 0, 1, 0))                                                // there is none; the one behind it is whole
	wholeOf(t, 4, false, T(1, 1, 5, 3, 0, 2, 0), T(1, 1, 7, 4, 0, 1, 1), T(1, 1, 6, 4, 0, 1, 2))
	wholeOf(t, 4, false, T(1, 1, 4, 1, 0, 1, 0), T(1, 1, 9, 4, 1, 2, 0))                        // the one ahead of it is
	wholeOf(t, 4, true, T(1, 1, 5, 1, 0, 2, 0), T(1, 1, 5, 4, 1, 2, 0))                         // of unlike floors
	wholeOf(t, 4, true, T(1, 1, 5, 1, 0, 2, 0), T(1, 5, 5, 0, 1, 2, 0), T(1, 3, 9, 4, 2, 3, 0)) // and starts
	wholeOf(t, 0, true, T(1, 1, 1, 0, 0, 1, 0))                                                 // the first one
	wholeOf(t, 0, false, T(1, 1, 1, 0, 0, 2, 0))
	wholeOf(t, 0, false, T(1, 1, 2, 0, 0, 1, 0))
}

func TestI1BlockOfSeveralBatches(t *testing.T) {
	// 6 is whole, and the last; 7 and 9 are above
	tags := map[int]tag.Tag{
		0: T(1, 1, 6, 5, 0, 1, 4), 1: T(1, 1, 3, 2, 0, 1, 0), 2: T(1, 1, 5, 4, 1, 4, 0), 3: T(1, 1, 2, 1, 0, 1, 0), 4: T(1, 1, 7, 5, 0, 2, 0),
		5: T(1, 1, 1, 0, 0, 1, 1), 6: T(1, 1, 9, 5, 0, 1, 1), 7: T(1, 1, 9, 5, 0, 1, 2), 8: T(1, 1, 5, 4, 3, 4, 3), 9: T(1, 1, 6, 5, 0, 1, 3),
	}
	tells(t, laid(t, 12, tags), 12, journal.State{Epoch: 2, Start: 7, Seq: 6, Head: 1, Used: 11, At: at(2, 5, -1, 9, 0, -1)})
}

func TestI1BlockOfOneBatchTwice(t *testing.T) {
	twice := []tag.Tag{T(1, 1, 3, 2, 0, 3, 0), T(1, 1, 3, 2, 1, 3, 0), T(1, 1, 3, 2, 2, 3, 0)} // the least place, whatever the index
	orders(t, twice, func(d *device.Device) {
		if s := agrees(t, d, 3, 2); s.Seq != 3 || !slices.Equal(s.At, at(0, -1)) {
			t.Error(s)
		}
	})
	old := []tag.Tag{T(1, 1, 3, 2, 0, 2, 0), T(1, 1, 2, 1, 0, 2, 1), T(1, 1, 2, 1, 1, 2, 1), T(1, 1, 1, 0, 0, 1, 1)} // also of a batch ahead of the last one
	orders(t, old, func(d *device.Device) {
		s := agrees(t, d, 4, 2)
		least := slices.IndexFunc(tagsOf(t, d, 4), func(x tag.Tag) bool { return x.Seq == 2 })
		if s.Seq != 2 || !slices.Equal(s.At, at(-1, least)) {
			t.Error(s)
		}
	})
	stale := map[int]tag.Tag{1: T(1, 1, 3, 2, 0, 1, 0), 4: T(2, 3, 3, 2, 0, 1, 0)} // the lesser place is stale
	tells(t, laid(t, 6, stale), 6, journal.State{Epoch: 3, Start: 4, Seq: 3, Head: 5, Used: 1, At: at(4)})
}

// tagsOf is the tag of each place.
func tagsOf(t *testing.T, d *device.Device, places int) []tag.Tag {
	t.Helper()
	var l []tag.Tag
	for place := range places {
		b, err := d.Read(place + 1)
		if err != api.OK {
			t.Fatal(err)
		}
		x, _, _ := tag.Decode(b)
		l = append(l, x)
	}
	return l
}

func TestI1BlocksOfBatchesThatAreNotWhole(t *testing.T) {
	// 4 was flushed; what is left of it, and of those ahead of it, is true
	tags := map[int]tag.Tag{0: T(1, 1, 5, 4, 0, 2, 3), 3: T(1, 1, 4, 3, 1, 9, 0), 5: T(1, 1, 2, 1, 7, 9, 1), 8: T(1, 1, 4, 3, 5, 9, 2)}
	tells(t, laid(t, 20, tags), 20, journal.State{Epoch: 2, Start: 5, Seq: 4, Head: 12, Used: 9, At: at(3, 5, 8, -1)})
}

func TestI1Head(t *testing.T) {
	floor := T(1, 1, 9, 4, 0, 2, 5) // by it 4 is the last one
	for _, c := range []struct {
		tags map[int]tag.Tag
		head int
	}{
		{map[int]tag.Tag{3: T(1, 1, 4, 3, 0, 1, 0)}, 4},
		{map[int]tag.Tag{3: T(1, 1, 4, 3, 0, 4, 0)}, 7}, // those behind it are gone
		{map[int]tag.Tag{3: T(1, 1, 4, 3, 2, 4, 0)}, 5},
		{map[int]tag.Tag{3: T(1, 1, 4, 3, 3, 4, 0)}, 4},
		{map[int]tag.Tag{3: T(1, 1, 4, 3, 0, 4, 0), 4: T(1, 1, 4, 3, 1, 4, 1)}, 7},
		{map[int]tag.Tag{8: T(1, 1, 4, 3, 0, 4, 0), 4: T(1, 1, 4, 3, 1, 4, 1)}, 7}, // the greatest index, not the greatest place
		{map[int]tag.Tag{1: T(1, 1, 4, 3, 2, 4, 0), 4: T(1, 1, 4, 3, 1, 4, 1)}, 3},
		{map[int]tag.Tag{1: T(1, 1, 4, 3, 1, 4, 0), 4: T(1, 1, 4, 3, 1, 4, 1)}, 4}, // two: that at the least place
		{map[int]tag.Tag{1: T(1, 1, 4, 3, 1, 2, 0), 4: T(1, 1, 4, 3, 1, 9, 1)}, 2}, // with its own count
		{map[int]tag.Tag{1: T(1, 1, 4, 3, 1, 9, 0), 4: T(1, 1, 4, 3, 1, 2, 1)}, 9},
		{map[int]tag.Tag{1: T(1, 1, 4, 3, 0, 9, 0), 4: T(1, 1, 4, 3, 1, 2, 1)}, 5}, // the greatest index, not the greatest count
		{map[int]tag.Tag{1: T(1, 1, 4, 3, 1, 9, 0), 4: T(1, 1, 4, 3, 1, 2, 1), 0: T(1, 1, 4, 3, 0, 7, 1)}, 9},
		{map[int]tag.Tag{9: T(1, 1, 4, 3, 0, 1, 0)}, 0}, // round the end
		{map[int]tag.Tag{9: T(1, 1, 4, 3, 0, 2, 0)}, 1},
		{map[int]tag.Tag{8: T(1, 1, 4, 3, 1, 6, 0)}, 3},
		{map[int]tag.Tag{9: T(1, 1, 4, 3, 0, 72, 0)}, 1}, // more than once round
		{map[int]tag.Tag{3: T(1, 1, 4, 3, 2, 72, 0)}, 3},
		{map[int]tag.Tag{0: T(1, 1, 4, 3, 0, 10, 0)}, 0},
		{map[int]tag.Tag{}, 0},                          // there is none
		{map[int]tag.Tag{3: T(1, 1, 3, 2, 0, 1, 0)}, 0}, // of another batch
		{map[int]tag.Tag{3: T(1, 1, 5, 3, 0, 2, 0)}, 0},
		{map[int]tag.Tag{3: T(1, 1, 3, 2, 3, 4, 0), 8: T(1, 1, 4, 3, 0, 1, 1)}, 9}, // whose index is greater
		{map[int]tag.Tag{3: T(1, 1, 4, 3, 0, 1, 0), 8: T(1, 1, 5, 3, 3, 9, 1)}, 4},
		{map[int]tag.Tag{3: T(1, 1, 4, 3, 0, 1, 0), 4: T(2, 4, 6, 3, 0, 3, 0)}, 0},                                                       // stale
		{map[int]tag.Tag{3: T(1, 1, 4, 3, 2, 3, 0), 5: T(2, 4, 4, 3, 1, 3, 0)}, 7},                                                       // the true one has less
		{map[int]tag.Tag{3: T(1, 1, 4, 3, 2, 3, 0), 4: T(2, 4, 4, 3, 2, 3, 0)}, 5},                                                       // the true one is at a greater place
		{map[int]tag.Tag{2: T(1, 1, 5, 4, 0, 3, 0), 3: T(1, 1, 5, 4, 1, 3, 1), 4: T(1, 1, 5, 4, 2, 3, 2), 7: T(1, 1, 4, 3, 8, 9, 2)}, 5}, // 5 is whole
		{map[int]tag.Tag{6: T(1, 1, 5, 4, 0, 3, 0), 3: T(1, 1, 5, 4, 1, 3, 1), 1: T(1, 1, 5, 4, 2, 3, 2), 7: T(1, 1, 4, 3, 8, 9, 2)}, 2},
		{map[int]tag.Tag{8: T(1, 1, 5, 4, 0, 3, 0), 9: T(1, 1, 5, 4, 1, 3, 1), 0: T(1, 1, 5, 4, 2, 3, 2), 7: T(1, 1, 4, 3, 8, 9, 2)}, 1},
		{map[int]tag.Tag{7: T(1, 1, 5, 4, 0, 3, 0), 8: T(1, 1, 5, 4, 1, 3, 1), 9: T(1, 1, 5, 4, 2, 3, 2), 5: T(1, 1, 4, 3, 8, 9, 2)}, 0},
		{map[int]tag.Tag{2: T(1, 1, 5, 4, 0, 3, 0), 3: T(1, 1, 5, 4, 1, 3, 1), 7: T(1, 1, 4, 3, 0, 1, 2)}, 8},                            // 5 is not
		{map[int]tag.Tag{2: T(1, 1, 5, 4, 0, 2, 0), 3: T(1, 1, 5, 4, 1, 2, 1), 4: T(1, 1, 5, 4, 1, 2, 1), 7: T(1, 1, 4, 3, 0, 1, 2)}, 4}, // two, of one that is whole
		{map[int]tag.Tag{2: T(1, 1, 5, 4, 1, 2, 0), 3: T(1, 1, 5, 4, 1, 2, 1), 4: T(1, 1, 5, 4, 0, 2, 1), 7: T(1, 1, 4, 3, 0, 1, 2)}, 3},
		{map[int]tag.Tag{2: T(1, 1, 5, 4, 1, 2, 0), 3: T(1, 1, 5, 4, 1, 2, 1), 4: T(1, 1, 5, 4, 0, 2, 1), 7: T(1, 1, 40, 2, 3, 4, 2)}, 3},
		{map[int]tag.Tag{2: T(1, 1, 4, 3, 0, 2, 0), 3: T(1, 1, 5, 4, 1, 2, 1), 7: T(1, 1, 4, 3, 1, 2, 5), 8: T(1, 1, 3, 2, 71, 72, 4)}, 8},
		{map[int]tag.Tag{2: T(1, 1, 4, 3, 0, 72, 0), 3: T(1, 1, 5, 4, 1, 2, 1), 7: T(1, 1, 4, 3, 71, 72, 5), 8: T(1, 1, 3, 2, 0, 1, 4)}, 8},
	} {
		if _, ok := c.tags[6]; !ok {
			c.tags[6] = floor
		}
		if s := agrees(t, laid(t, 10, c.tags), 10, 6); s.Head != c.head {
			t.Errorf("%+v: %+v, want Head %d", c.tags, s, c.head)
		}
	}
}

func TestI1HeadInFewPlaces(t *testing.T) {
	for places := 1; places <= 5; places++ {
		for place := range places {
			for _, c := range [][2]int{{0, 1}, {0, 2}, {1, 2}, {0, 5}, {3, 5}, {0, 72}, {71, 72}, {40, 72}} {
				d := laid(t, places, map[int]tag.Tag{place: T(1, 1, 4, 3, c[0], c[1], 0)})
				head, used, own := (place+c[1]-c[0])%places, 1, at(place)
				if c[1] > 1 { // 4 is not whole, and 3 is not there
					head, used, own = 0, 0, none(1)
				}
				s := agrees(t, d, places, 1)
				if s.Head != head || s.Used != used || !slices.Equal(s.At, own) {
					t.Fatalf("%d places: %+v", places, s)
				}
				if places == 1 {
					continue
				}
				other := (place + 1) % places // it tells that 4 was flushed
				d = laid(t, places, map[int]tag.Tag{place: T(1, 1, 4, 3, c[0], c[1], 0), other: T(1, 1, 9, 4, 0, 2, 0)})
				head = (place + c[1] - c[0]) % places
				if s := agrees(t, d, places, 1); s.Head != head || s.Used != (head+places-place-1)%places+1 || s.At[0] != place {
					t.Fatalf("%d places: %+v", places, s)
				}
			}
		}
	}
}

func TestI1Used(t *testing.T) {
	const places = 10
	for last := range places { // of batch 4, of which one sector is left
		for count := 1; count <= 10; count++ {
			head := (last + count) % places
			for other := range places {
				if other == last || (other+1)%places == last {
					continue
				}
				tags := map[int]tag.Tag{last: T(1, 1, 4, 3, 0, count, 0), other: T(1, 1, 2, 1, 0, 1, 1)}
				tags[(last+places-1)%places] = T(1, 1, 6, 4, 0, 2, 1) // it tells that 4 was flushed
				far := func(place int) int {
					n := 1
					for p := place; (p+1)%places != head; p = (p + 1) % places {
						n++
					}
					return n
				}
				want := journal.State{Epoch: 2, Start: 5, Seq: 4, Head: head, Used: max(far(last), far(other)), At: at(last, other)}
				if got := agrees(t, laid(t, places, tags), places, 2); !same(got, want) {
					t.Fatalf("%+v: %+v, want %+v", tags, got, want)
				}
			}
		}
	}
}

func TestI1UsedAtItsEdges(t *testing.T) {
	for _, c := range []struct {
		tags       map[int]tag.Tag
		epoch      uint32
		seq        uint64
		head, used int
		at         []int
	}{
		{map[int]tag.Tag{4: T(1, 1, 4, 3, 0, 2, 0)}, 2, 3, 0, 0, at(-1, -1)}, // none
		{map[int]tag.Tag{4: T(1, 1, 4, 3, 0, 1, 0)}, 2, 4, 5, 1, at(4, -1)},  // one
		{map[int]tag.Tag{9: T(1, 1, 4, 3, 0, 1, 0)}, 2, 4, 0, 1, at(9, -1)},
		{map[int]tag.Tag{4: T(1, 1, 4, 3, 0, 1, 0), 5: T(1, 1, 1, 0, 0, 1, 1)}, 2, 4, 5, 10, at(4, 5)}, // all: one is at the head itself
		{map[int]tag.Tag{9: T(1, 1, 4, 3, 0, 1, 0), 0: T(1, 1, 1, 0, 0, 1, 1)}, 2, 4, 0, 10, at(9, 0)},
		{map[int]tag.Tag{4: T(1, 1, 4, 3, 0, 1, 0), 6: T(1, 1, 1, 0, 0, 1, 1)}, 2, 4, 5, 9, at(4, 6)}, // round the end
		{map[int]tag.Tag{1: T(1, 1, 4, 3, 0, 1, 0), 9: T(1, 1, 1, 0, 0, 1, 1)}, 2, 4, 2, 3, at(1, 9)},
		{map[int]tag.Tag{4: T(1, 1, 4, 2, 0, 1, 0), 5: T(1, 1, 5, 3, 0, 2, 1)}, 2, 4, 5, 1, at(4, -1)}, // what is above Seq is not in use
		{map[int]tag.Tag{4: T(1, 1, 2, 1, 0, 1, 0), 5: T(1, 1, 5, 3, 0, 2, 1)}, 2, 3, 0, 6, at(4, -1)}, // of Seq itself there is none: the head is 0
		{map[int]tag.Tag{0: T(1, 1, 2, 1, 0, 1, 0), 5: T(1, 1, 5, 3, 0, 2, 1)}, 2, 3, 0, 10, at(0, -1)},
		{map[int]tag.Tag{4: T(1, 1, 4, 3, 0, 1, 0), 6: T(2, 5, 5, 3, 0, 2, 1), 7: T(1, 1, 5, 3, 0, 1, 1)}, 3, 4, 5, 1, at(4, -1)}, // nor is what is stale
	} {
		tells(t, laid(t, 10, c.tags), 10, journal.State{Epoch: c.epoch, Start: c.seq + 1, Seq: c.seq, Head: c.head, Used: c.used, At: c.at})
	}
}

func TestI1EpochAtItsEdges(t *testing.T) {
	for _, epoch := range []uint32{1, 2, 255, 256, 65535, 1<<31 - 1, 1 << 31, math.MaxUint32 - 2, math.MaxUint32 - 1} {
		d := laid(t, 10, map[int]tag.Tag{3: T(epoch, 1, 3, 2, 0, 1, 0)})
		tells(t, d, 10, journal.State{Epoch: epoch + 1, Start: 4, Seq: 3, Head: 4, Used: 1, At: at(3, -1)})
	}
	most := map[int]tag.Tag{3: T(math.MaxUint32, 1, 3, 2, 0, 1, 1), 5: T(4, 1, 3, 2, 0, 1, 0)}
	refused(t, laid(t, 10, most), 10, 2, api.ErrState)
	refused(t, laid(t, 4, most), 4, 2, api.ErrState)                                                        // at the last place
	tells(t, laid(t, 10, most), 10, journal.State{Epoch: 5, Start: 4, Seq: 3, Head: 6, Used: 1, At: at(5)}) // of a block that there is not
	d := laid(t, 10, most)
	tear(t, d, 4)
	tells(t, d, 10, journal.State{Epoch: 5, Start: 4, Seq: 3, Head: 6, Used: 1, At: at(5, -1)})
	tells(t, laid(t, 10, map[int]tag.Tag{1: T(9, 1, 3, 2, 0, 1, 0), 2: T(4, 1, 3, 2, 0, 1, 0), 3: T(12, 8, 8, 2, 0, 1, 0), 4: T(10, 2, 2, 1, 0, 1, 0)}), 10,
		journal.State{Epoch: 13, Start: 3, Seq: 2, Head: 5, Used: 1, At: at(4)}) // the greatest one of all, wherever it is
}

func TestI1SeqAtItsEdges(t *testing.T) {
	for _, c := range []struct {
		tags map[int]tag.Tag
		seq  uint64
		err  api.Errno
	}{
		{map[int]tag.Tag{3: T(1, 1, maxSeq, maxSeq-1, 0, 1, 0)}, 0, api.ErrState},
		{map[int]tag.Tag{3: T(1, maxSeq, maxSeq, maxSeq-1, 0, 1, 0)}, 0, api.ErrState},
		{map[int]tag.Tag{3: T(1, 1, maxSeq, maxSeq-1, 0, 2, 0), 4: T(1, 1, maxSeq, 0, 1, 2, 0)}, 0, api.ErrState},
		{map[int]tag.Tag{3: T(1, 1, maxSeq, maxSeq-1, 0, 2, 0)}, maxSeq - 1, api.OK}, // not whole
		{map[int]tag.Tag{3: T(1, 1, maxSeq, maxSeq-2, 0, 1, 0)}, maxSeq - 2, api.OK}, // whole, but not behind the floor
		{map[int]tag.Tag{3: T(1, 1, maxSeq-1, maxSeq-2, 0, 1, 0)}, maxSeq - 1, api.OK},
		{map[int]tag.Tag{3: T(1, 1, maxSeq-1, maxSeq-2, 0, 2, 0)}, maxSeq - 2, api.OK},
		{map[int]tag.Tag{3: T(1, 1, maxSeq-1, maxSeq-2, 0, 1, 0), 4: T(1, 1, maxSeq, 0, 0, 1, 1)}, maxSeq - 1, api.OK},
		{map[int]tag.Tag{3: T(1, 1, maxSeq-1, maxSeq-2, 0, 1, 0), 4: T(1, 1, maxSeq, maxSeq-1, 0, 1, 1)}, 0, api.ErrState},
		{map[int]tag.Tag{3: T(1, 1, maxSeq, maxSeq-1, 0, 1, 0), 4: T(2, maxSeq, maxSeq, 1, 0, 2, 1)}, maxSeq - 1, api.OK}, // stale
		{map[int]tag.Tag{3: T(1, 1, maxSeq, maxSeq-1, 0, 1, 0), 4: T(2, maxSeq-1, maxSeq-1, 1, 0, 1, 1)}, maxSeq - 1, api.OK},
		{map[int]tag.Tag{3: T(1, 1, maxSeq, 0, 0, 1, 0)}, 0, api.OK},
		{map[int]tag.Tag{3: T(math.MaxUint32, 1, maxSeq, maxSeq-1, 0, 1, 0)}, 0, api.ErrState}, // both
		{map[int]tag.Tag{3: T(math.MaxUint32-1, 1, maxSeq-1, maxSeq-2, 0, 1, 0)}, maxSeq - 1, api.OK},
	} {
		d := laid(t, 10, c.tags)
		if c.err != api.OK {
			refused(t, d, 10, 2, c.err)
		}
		if s := agrees(t, d, 10, 2); s.Seq != c.seq || c.err == api.OK && s.Start != c.seq+1 {
			t.Errorf("%+v: %+v", c.tags, s)
		}
	}
	refused(t, laid(t, 10, map[int]tag.Tag{3: T(1, 1, maxSeq, maxSeq-1, 0, 1, 2)}), 10, 3, api.ErrState)
	tells(t, laid(t, 10, map[int]tag.Tag{3: T(1, 1, maxSeq, maxSeq-1, 0, 1, 2)}), 10, journal.State{Epoch: 1, Start: 1, At: none(2)})
}

func TestI1NothingIsWrittenNorKept(t *testing.T) {
	d := laid(t, 10, map[int]tag.Tag{3: T(1, 1, 3, 2, 0, 1, 0)})
	put(t, d, 7, sectorOf(t, T(1, 1, 4, 3, 0, 1, 1)))
	was := d.Counts()
	s, err := Scan(d, 10, 2)
	if got := d.Counts(); err != api.OK || got.Writes != was.Writes || got.Flushes != was.Flushes || got.Reads != was.Reads+10 {
		t.Fatal(got, err)
	}
	d.Crash([]int{1})
	d.Start()
	tells(t, d, 10, s) // it waited still, and was done
	put(t, d, 7, sectorOf(t, T(1, 1, 5, 4, 0, 1, 1)))
	flush(t, d)
	if !slices.Equal(s.At, at(3, 6)) {
		t.Error(s)
	}
	tells(t, d, 10, journal.State{Epoch: 2, Start: 6, Seq: 5, Head: 7, Used: 4, At: at(3, 6)})
}

func TestI1TheGreatestDevice(t *testing.T) {
	const places, last, head = 19999, 19999, 7000
	d := deviceOf(t, places+1)
	want := journal.State{Epoch: last + 1, Start: last + 1, Seq: last, Head: head, Used: 3840, At: none(3840)}
	for i := range places { // batches of one block, each of an epoch of its own, round the end
		seq, place := i+1, (head+i)%places
		want.At[seq%3840] = place
		put(t, d, place+1, sectorOf(t, T(uint32(seq), uint64(seq), uint64(seq), uint64(i), 0, 1, seq%3840)))
	}
	flush(t, d)
	if s := scanned(t, d, places, 3840); !same(s, want) {
		t.Error(brief(s))
	}
	put(t, d, 1, sectorOf(t, T(1<<31, 1, 19000, 18000, 0, 2, 5))) // all others are stale
	want = journal.State{Epoch: 1<<31 + 1, Start: last, Seq: last - 1, Head: 0, Used: places, At: none(3840)}
	want.At[5] = 0
	if s := scanned(t, d, places, 3840); !same(s, want) {
		t.Error(brief(s))
	}
}

// TestI1EachSmallDevice does each device of few places, of tags that have to do with each other.
func TestI1EachSmallDevice(t *testing.T) {
	tags := []tag.Tag{{}}
	for _, batch := range [][3]uint64{{1, 1, 0}, {1, 2, 1}, {2, 2, 1}, {1, 3, 2}, {1, 3, 1}, {3, 3, 1}} {
		for _, epoch := range []uint32{1, 2} {
			for _, place := range [][2]int{{0, 1}, {0, 2}, {1, 2}} {
				tags = append(tags, T(epoch, batch[0], batch[1], batch[2], place[0], place[1], place[0]))
			}
		}
	}
	tags = append(tags, T(3, 2, 2, 1, 0, 1, 0), T(2, 2, 2, 1, 0, 2, 2), T(1, 1, 2, 1, 2, 3, 0), T(2, 2, 3, 2, 2, 3, 1))
	count := 0
	d := deviceOf(t, 4)
	var lay func(place int)
	lay = func(place int) {
		if place == 3 {
			agrees(t, d, 3, 2)
			count++
			return
		}
		for _, x := range tags {
			b := make([]byte, 512)
			if x != (tag.Tag{}) {
				b = sectorOf(t, x)
			}
			put(t, d, place+1, b)
			flush(t, d)
			lay(place + 1)
		}
	}
	lay(0)
	if count != 41*41*41 {
		t.Error(count)
	}
}

// TestI1AgainstAModel does devices that look like chance, of tags that have to do with each other.
func TestI1AgainstAModel(t *testing.T) {
	d := dice(88172645463325252)
	seen := map[string]int{}
	for range 20000 {
		places, blocks := 1+d.next(9), 1+d.next(4)
		base := []uint64{1, 4, 1 << 32, maxSeq - 6}[d.next(4)]
		epoch := []uint32{1, 200, math.MaxUint32 - 3}[d.next(3)]
		tags := map[int]tag.Tag{}
		for place := range places {
			if d.next(6) == 0 {
				continue
			}
			seq := base + uint64(d.next(5))
			start := max(1, seq-uint64(d.next(4))%seq)
			count := 1 + d.next(3)
			tags[place] = T(epoch+uint32(d.next(4)), start, seq, seq-1-uint64(d.next(3))%seq, d.next(count), count, d.next(blocks+1))
		}
		dev := laid(t, places, tags)
		if d.next(4) == 0 {
			tear(t, dev, 1+d.next(places))
		}
		s := agrees(t, dev, places, blocks)
		switch {
		case s.Epoch == 0:
			seen["ErrState"]++
		case s.Used == places:
			seen["all"]++
		case s.Used == 0:
			seen["none"]++
		case s.Head < s.Used:
			seen["round"]++
		default:
			seen["some"]++
		}
	}
	for _, what := range []string{"ErrState", "all", "none", "round", "some"} {
		if seen[what] < 200 {
			t.Errorf("%s: %v", what, seen)
		}
	}
}
