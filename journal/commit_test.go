package journal

import (
	"bytes"
	"math"
	"slices"
	"strconv"
	"testing"

	"harrow/api"
	"harrow/tag"
)

// begun is a journal of 6 blocks in 24 places, round the end of the ring: of 20 to 23 and 0 to 3, in use, 21, 1 and 2 have no block.
func begun(t *testing.T) bench {
	t.Helper()
	return benchOf(t, 24, State{Epoch: 3, Start: 4, Seq: 8, Head: 4, Used: 8, At: []int{22, 3, -1, 20, 0, 23}})
}

// kept is so many numbers that let a crash do all that waits.
func kept() []int { return slices.Repeat([]int{1}, 200) }

// sectorAt is what the device has of a place.
func (b bench) sectorAt(t *testing.T, place int) (tag.Tag, []byte) {
	t.Helper()
	raw, err := b.d.Read(place + 1)
	if err != api.OK {
		t.Fatal(err)
	}
	x, block, err := tag.Decode(raw)
	if err != api.OK {
		t.Fatalf("place %d: no tag", place)
	}
	return x, block
}

func TestH2ExampleOfTheChapter(t *testing.T) {
	b := plainOf(t, 200, 10)
	b.does(t, of(1, 7, 2), api.OK)
	if s := b.j.State(); s.At[7] != 0 || s.At[2] != 1 || s.Head != 2 || s.Used != 2 || s.Seq != 1 || b.j.Room() != 198 {
		t.Errorf("%+v, %d", s, b.j.Room())
	}
}

func TestH2ReadOfNoSuchBlock(t *testing.T) {
	b := begun(t)
	was := b.d.Counts()
	for _, id := range []int{math.MinInt, math.MinInt32, -6, -2, -1, 6, 7, 24, 3839, 3840, 1 << 32, 1<<32 + 1, math.MaxInt} {
		answers(t, b.j, id, api.ErrArg)
	}
	if b.d.Counts() != was {
		t.Error("the device was asked")
	}
	b.d.Crash(nil) // nobody asks it
	answers(t, b.j, 6, api.ErrArg)
	if b.j.Broken() {
		t.Error("broken")
	}
	for _, blocks := range []int{1, 3840} {
		b := plainOf(t, 10, blocks)
		answers(t, b.j, blocks, api.ErrArg)
		answers(t, b.j, -1, api.ErrArg)
		if got, err := b.j.Read(blocks - 1); err != api.OK || !bytes.Equal(got, make([]byte, 480)) {
			t.Error(err)
		}
	}
}

func TestH2ReadOfWhatWasNeverWritten(t *testing.T) {
	b := plainOf(t, 30, 4)
	b.reads(t)
	b.does(t, of(1, 2), api.OK)
	was := b.d.Counts()
	b.d.Crash(nil) // who doesn't ask it isn't told
	for _, id := range []int{0, 1, 3} {
		got, err := b.j.Read(id)
		if err != api.OK || !bytes.Equal(got, make([]byte, 480)) {
			t.Errorf("Read(%d): %v", id, err)
		}
		copy(got, "mine")
	}
	got, err := b.j.Read(0)
	if err != api.OK || !bytes.Equal(got, make([]byte, 480)) || b.j.Broken() || b.d.Counts() != was {
		t.Error(err, b.d.Counts())
	}
}

func TestH2ReadOfWhatWasWritten(t *testing.T) {
	b := plainOf(t, 60, 5)
	b.does(t, of(10, 3, 0), api.OK)
	b.does(t, of(20, 1), api.OK) // 3 and 0 move
	for _, id := range []int{3, 0, 1, 3, 3} {
		was := b.d.Counts()
		got, err := b.j.Read(id)
		if err != api.OK || !bytes.Equal(got, b.m.data[id]) {
			t.Errorf("Read(%d): %v", id, err)
		}
		was.Reads++
		if b.d.Counts() != was {
			t.Errorf("Read(%d): %+v, want %+v", id, b.d.Counts(), was)
		}
	}
	zero := []api.Write{{ID: 3, Data: make([]byte, 480)}} // what is 0 is written like all else
	b.does(t, zero, api.OK)
	if x, _ := b.sectorAt(t, 5); x.ID != 3 {
		t.Error(x)
	}
}

func TestH2ReadBehindEachBatch(t *testing.T) {
	b := plainOf(t, 40, 7)
	for n := range 60 {
		b.does(t, of(n*10, n%7, (n*3+1+n%7)%7), b.wants(of(0, n%7, (n*3+1+n%7)%7)))
	}
}

// wants is what a list would be answered: OK, but where it has a block twice.
func (b bench) wants(l []api.Write) api.Errno {
	if b.m.wrong(l) {
		return api.ErrArg
	}
	return api.OK
}

func TestH2CommitOfWhatMayNotBe(t *testing.T) {
	short := func(n int) []api.Write { return []api.Write{{ID: 1, Data: make([]byte, n)}} }
	lists := [][]api.Write{
		nil, {}, // none
		of(0, from(0, 25)...), of(0, from(0, 26)...), of(0, from(0, 30)...), slices.Repeat(of(0, 1), 25), slices.Repeat(of(0, 1), 1000), // more than 24
		of(0, 30), of(0, -1), of(0, 31), of(0, math.MaxInt), of(0, math.MinInt), of(0, 1<<32), of(0, 1<<32+1), of(0, 3840), // there is none
		of(0, 1, 2, 30), of(0, 30, 1, 2), of(0, 1, -1, 2), of(0, append(from(0, 23), 30)...),
		of(0, 1, 1), of(0, 0, 0), of(0, 29, 29), of(0, 1, 2, 1), of(0, 2, 1, 1), of(0, 1, 1, 2), of(0, append(from(0, 23), 0)...), of(0, append(from(0, 23), 22)...), // twice
		slices.Repeat(of(0, 1), 2), slices.Repeat(of(0, 1), 24),
		short(0), short(1), short(479), short(481), short(512), short(960), {{ID: 1}}, {{}},
		slices.Concat(of(0, 2, 3), short(479)), slices.Concat(short(481), of(0, 2, 3)), slices.Concat(of(0, 2), short(0), of(0, 3)), slices.Concat(of(0, from(2, 23)...), short(479)),
	}
	for i, l := range lists {
		b := plainOf(t, 100, 30)
		b.does(t, of(5, 0, 1, 2), api.OK)
		b.does(t, l, api.ErrArg) // it costs nothing
		b.d.Crash(nil)
		b.j.Commit(l)
		if b.j.Broken() || b.d.Counts().Flushes != 2 { // the first one was benchOf's
			t.Fatalf("list %d: the device was asked", i)
		}
	}
}

func TestH2CommitOfAsManyAsMayBe(t *testing.T) {
	b := plainOf(t, 400, 120)
	for i, c := range []struct {
		ids                                 []int
		reads, writes, used, room, head, to int // to: how many of the batch there are
	}{
		{from(0, 24), 0, 24, 24, 376, 24, 24},
		{from(24, 24), 24, 48, 48, 328, 72, 48}, // all that are in use are cleaned
		{from(48, 24), 48, 72, 72, 280, 144, 72},
		{from(72, 24), 48, 72, 96, 256, 216, 72}, // as many as there may be
		{from(96, 24), 48, 72, 120, 232, 288, 72},
		{from(0, 1), 2, 3, 121, 277, 291, 3},
	} {
		was := b.d.Counts()
		l := of(1000*i, c.ids...)
		b.commits(t, l)
		cost := api.Counts{Reads: was.Reads + c.reads, Writes: was.Writes + c.writes, Flushes: was.Flushes + 1}
		if s := b.j.State(); b.d.Counts() != cost || s.Used != c.used || b.j.Room() != c.room || s.Head != c.head || s.Seq != uint64(i+1) {
			t.Fatalf("batch %d: %+v behind %+v, %+v, room %d", i, b.d.Counts(), was, s, b.j.Room())
		}
		for n := range c.to {
			x, block := b.sectorAt(t, c.head-c.to+n)
			want := tag.Tag{Epoch: 1, Start: 1, Seq: uint64(i + 1), Floor: uint64(i), Index: n, Count: c.to, ID: x.ID}
			if n < len(c.ids) {
				want.ID = c.ids[n]
			}
			if x != want || !bytes.Equal(block, b.m.data[x.ID]) {
				t.Fatalf("batch %d: %+v, want %+v", i, x, want)
			}
		}
		b.holds(t)
	}
}

func TestH2OrderOfABatch(t *testing.T) {
	b := begun(t) // from the tail on: 3, none, 0, 5, 4, none, none, 1
	b.does(t, of(1, 2, 1, 0), api.OK)
	for i, c := range []struct{ place, id int }{{4, 2}, {5, 1}, {6, 0}, {7, 3}, {8, 5}, {9, 4}} { // 6 are cleaned; of these 0 is in the list
		want := tag.Tag{Epoch: 3, Start: 4, Seq: 9, Floor: 8, Index: i, Count: 6, ID: c.id}
		x, block := b.sectorAt(t, c.place)
		if x != want || !bytes.Equal(block, b.m.data[c.id]) || b.j.State().At[c.id] != c.place {
			t.Errorf("place %d: %+v, want %+v", c.place, x, want)
		}
	}
	if s := b.j.State(); s.Head != 10 || s.Used != 8 || s.Seq != 9 || s.Epoch != 3 || s.Start != 4 || b.j.Room() != 10 {
		t.Errorf("%+v, %d", s, b.j.Room())
	}
}

func TestH2CleaningRoundTheEnd(t *testing.T) {
	for _, c := range []struct {
		ids         []int
		moved, used int
		freed       int
	}{
		{[]int{2}, 1, 8, 2},                // 20, 21: 3 moves
		{[]int{3}, 0, 7, 2},                // it is in the list
		{[]int{2, 1}, 3, 9, 4},             // 20 to 23: 3, 0 and 5 move
		{[]int{0, 5}, 1, 7, 4},             // of these 3
		{[]int{3, 0, 5}, 1, 6, 6},          // 20 to 1: 4
		{[]int{2, 3, 4}, 2, 7, 6},          // 0 and 5
		{[]int{2, 1, 3, 0}, 2, 6, 8},       // all in use
		{[]int{0, 1, 2, 3, 4, 5}, 0, 6, 8}, // also of more there are no more
		{[]int{1, 2, 3, 4, 5}, 1, 6, 8},
	} {
		b := begun(t)
		was := b.d.Counts()
		b.does(t, of(100, c.ids...), api.OK)
		s := b.j.State()
		if s.Used != c.used || b.j.Room() != 24-c.used-c.freed || s.Head != 4+len(c.ids)+c.moved {
			t.Errorf("%v: %+v, room %d behind %+v", c.ids, s, b.j.Room(), was)
		}
	}
}

func TestH2WritingRoundTheEnd(t *testing.T) {
	for head := range 9 {
		b := benchOf(t, 9, State{Epoch: 2, Start: 1, Seq: 5, Head: head, Used: 2, At: []int{(head + 7) % 9, (head + 8) % 9, -1, -1}})
		b.does(t, of(40, 2, 3), api.OK) // 0 and 1 move
		want := []int{(head + 2) % 9, (head + 3) % 9, head, (head + 1) % 9}
		if s := b.j.State(); !slices.Equal(s.At, want) || s.Head != (head+4)%9 || s.Used != 4 || b.j.Room() != 3 {
			t.Errorf("%+v, want %v", s, want)
		}
		b.does(t, of(50, 2), api.OK) // that is cleaned, and 3 moves: into two of the three
		b.does(t, of(60, 1), api.OK)
	}
}

func TestH2NothingIsCleanedWhereNothingIsInUse(t *testing.T) {
	b := benchOf(t, 5, State{Epoch: 1, Start: 1, Seq: 3, Head: 4, At: none(5)})
	b.does(t, of(1, 0, 4, 2), api.OK)
	if s := b.j.State(); !slices.Equal(s.At, []int{4, -1, 1, -1, 0}) || s.Used != 3 || b.j.Room() != 2 {
		t.Errorf("%+v", s)
	}
}

func TestH2PlacesWithoutABlockAreCleanedToo(t *testing.T) {
	b := benchOf(t, 50, State{Epoch: 1, Start: 1, Head: 40, Used: 30, At: []int{39, -1}}) // from 10 on there is none, up to the last one
	for n := range 14 {
		was := b.d.Counts()
		b.does(t, of(n, 1), api.OK)
		if s := b.j.State(); s.Used != 29-n || b.m.reads != 0 || b.m.writes != 1 || b.m.flushes != 1 {
			t.Fatalf("batch %d: %+v behind %+v", n, s, was)
		}
	}
}

func TestH2BatchesOfAllSizes(t *testing.T) {
	for n := 1; n <= 24; n++ {
		b := plainOf(t, 300, 60)
		for i := range 8 {
			b.commits(t, of(100*i, from(i*n%37, n)...))
			if b.m.writes == 0 {
				t.Fatalf("%d blocks: none were written", n)
			}
		}
		b.holds(t)
	}
}

func TestH2Full(t *testing.T) {
	for _, c := range []struct {
		places, used int
		at           []int
		ids          []int
		reads        int
		want         api.Errno
	}{
		{3, 0, none(4), []int{0, 1, 2}, 0, api.OK},
		{3, 0, none(4), []int{0, 1, 2, 3}, 0, api.ErrFull}, // one more than there is room
		{3, 3, none(4), []int{0}, 0, api.ErrFull},          // no room at all, though all might be cleaned
		{3, 2, none(4), []int{0}, 0, api.OK},
		{3, 2, none(4), []int{0, 1}, 0, api.ErrFull},
		{6, 3, []int{0, 1, 2, -1}, []int{3}, 2, api.OK}, // with two that move it is just as many
		{6, 3, []int{0, 1, 2, -1}, []int{3, 2}, 2, api.ErrFull},
		{5, 3, []int{0, 1, 2, -1}, []int{3}, 2, api.ErrFull},
		{5, 3, []int{0, 1, 2, -1}, []int{0}, 1, api.OK}, // one that is in the list does not move
		{5, 3, []int{0, 1, 2, -1}, []int{0, 1}, 1, api.ErrFull},
		{5, 3, []int{0, -1, 2, -1}, []int{0, 3}, 1, api.ErrFull},
		{5, 3, []int{0, -1, 2, -1}, []int{0, 2}, 0, api.OK},
		{1, 0, none(4), []int{3}, 0, api.OK},
		{1, 1, []int{0}, []int{0}, 0, api.ErrFull},
		{1, 0, none(4), []int{3, 2}, 0, api.ErrFull},
	} {
		b := benchOf(t, c.places, State{Epoch: 1, Start: 1, Head: c.used % c.places, Used: c.used, At: c.at})
		was := b.d.Counts()
		l := of(20, c.ids...)
		b.commits(t, l)
		if got := b.d.Counts(); got.Reads-was.Reads != c.reads || got.Flushes-was.Flushes != 1 || (got.Writes == was.Writes) != (c.want == api.ErrFull) {
			t.Errorf("%+v: %+v behind %+v", c, got, was)
		}
		b.holds(t)
		b.does(t, l, b.again(l))
		if c.want == api.ErrFull {
			b.does(t, l, api.ErrFull) // for all that was cleaned ahead of it nothing is free
		}
	}
}

// again is what the model will answer, asked ahead of time.
func (b bench) again(l []api.Write) api.Errno {
	m := &model{places: b.m.places, freed: b.m.freed, s: b.m.s, data: slices.Clone(b.m.data), disk: slices.Clone(b.m.disk)}
	m.s.At = slices.Clone(b.m.s.At)
	return m.commit(l)
}

func TestH2FullBehindWhatTheLastBatchSetFree(t *testing.T) {
	b := plainOf(t, 10, 4)
	b.does(t, of(1, 0, 1, 2), api.OK) // used 3
	b.does(t, of(2, 0, 1, 2), api.OK) // used 3, free 4, and 3 that the batch set free
	if b.j.Room() != 4 {
		t.Fatal(b.j.Room())
	}
	b.does(t, of(3, 0, 1, 2, 3), api.OK) // just as many
	b.does(t, of(4, 3, 2), api.ErrFull)  // used 4, free 3: 0 and 1 would move
	b.does(t, of(4, 3, 2, 1, 0), api.ErrFull)
	b.does(t, of(5, 0), api.OK) // 1 moves
	b.does(t, of(6, 1, 2, 3, 0), api.OK)
}

func TestH2FullIsFoundBehindFlushAndReads(t *testing.T) {
	state := State{Epoch: 1, Start: 1, Head: 3, Used: 3, At: []int{0, 1, 2, -1}}
	l := of(20, 3, 2) // 0 and 1 would move, and there is room for one
	for n := range 3 {
		b := benchOf(t, 4, state)
		b.d.Arm(n, nil)
		if got := b.j.Commit(l); got != api.ErrDown { // the flush, and the reads
			t.Fatalf("down at %d: %v", n, got)
		}
		b.dead(t)
	}
	b := benchOf(t, 4, state)
	b.d.Arm(3, nil)
	b.commits(t, l)
	if b.d.Down() || b.j.Broken() {
		t.Fatal("more than that was asked")
	}
	b = benchOf(t, 4, state)
	put(t, b.d, 2, mark) // where 1 is
	if got := b.j.Commit(l); got != api.ErrDown {
		t.Fatal(got)
	}
	b.dead(t)
	b = benchOf(t, 4, state)
	put(t, b.d, 4, mark) // it waits
	b.m.disk[3] = mark
	b.does(t, l, api.ErrFull)
	b.d.Crash(nil)
	b.d.Start()
	b.holds(t) // the mark was flushed
}

func TestH2NoMoreBatchesBehindMaxSeq(t *testing.T) {
	for _, start := range []uint64{1, maxSeq - 1, maxSeq} {
		b := benchOf(t, 20, State{Epoch: math.MaxUint32, Start: start, Seq: maxSeq - 1, Head: 2, Used: 2, At: []int{0, 1, -1}})
		b.does(t, of(1, 2), api.OK) // the last one
		x, _ := b.sectorAt(t, 2)
		if want := (tag.Tag{Epoch: math.MaxUint32, Start: start, Seq: maxSeq, Floor: maxSeq - 1, Count: 3, ID: 2}); x != want {
			t.Errorf("%+v", x)
		}
		b.does(t, of(2, 2), api.ErrState) // it costs nothing
		b.does(t, nil, api.ErrArg)
		b.does(t, of(2, 3), api.ErrArg)
		if b.j.Flush() != api.OK {
			t.Error("Flush")
		}
		b.holds(t)
	}
	b := benchOf(t, 20, State{Epoch: 1, Start: maxSeq + 1, Seq: maxSeq, Head: 2, Used: 2, At: []int{0, 1, -1}})
	b.does(t, of(2, 2), api.ErrState)
	b.d.Crash(nil)
	if got := b.j.Commit(of(2, 2)); got != api.ErrState || b.j.Broken() { // nobody asks it
		t.Error(got)
	}
	if got := b.j.Commit(of(2, 3)); got != api.ErrArg {
		t.Error(got)
	}
	answers(t, b.j, 0, api.ErrDown)
	b.dead(t)
	full := benchOf(t, 3, State{Epoch: 1, Start: 1, Seq: maxSeq, Used: 3, At: none(3)}) // ErrFull would come behind it
	full.does(t, of(2, 2), api.ErrState)
}

func TestH2ArgumentsAheadOfAllElse(t *testing.T) {
	b := benchOf(t, 3, State{Epoch: 1, Start: 1, Seq: maxSeq, Used: 3, At: none(3)}) // full, at MaxSeq, broken
	b.d.Crash(nil)
	b.j.Flush()
	b.dead(t)
	full := benchOf(t, 3, State{Epoch: 1, Start: 1, Seq: 6, Used: 3, At: none(3)})
	full.does(t, of(0, 1, 1), api.ErrArg)
	full.does(t, of(0, 1, 2), api.ErrFull)
	full.d.Crash(nil)
	if got := full.j.Commit(of(0, 1, 2)); got != api.ErrDown { // full, and down
		t.Error(got)
	}
	full.dead(t)
}

func TestH2Flush(t *testing.T) {
	b := plainOf(t, 30, 4)
	b.does(t, of(1, 0, 3), api.OK)
	was := b.d.Counts()
	was.Flushes++
	if got := b.j.Flush(); got != api.OK || b.d.Counts() != was {
		t.Fatal(got, b.d.Counts())
	}
	b.d.Crash(nil)
	b.d.Start()
	b.holds(t) // nothing is lost
	b.does(t, of(2, 0, 3), api.OK)
	b.d.Crash(nil)
	if got := b.j.Flush(); got != api.ErrDown {
		t.Fatal(got)
	}
	b.dead(t)
}

func TestH2ABatchWaitsForTheNextOne(t *testing.T) {
	b := plainOf(t, 30, 4)
	b.commits(t, of(1, 0, 3))
	b.d.Crash(nil)
	b.d.Start()
	answers(t, b.j, 3, api.ErrDown) // it was lost: there is no tag
	b.dead(t)
	b = plainOf(t, 30, 4)
	b.commits(t, of(1, 0, 3))
	b.commits(t, of(2, 1))
	b.d.Crash(nil)
	b.d.Start()
	for i, id := range []int{0, 3} {
		if x, block := b.sectorAt(t, i); x.ID != id || !bytes.Equal(block, b.m.data[id]) {
			t.Error(i, x)
		}
	}
	answers(t, b.j, 1, api.ErrDown)
}

// TestH2DownAtAnyOperation lets the device go down at each operation of a batch of two, that cleans four places; what waits is lost, or done, or torn.
func TestH2DownAtAnyOperation(t *testing.T) {
	const reads, writes = 3, 5
	for _, keep := range [][]int{nil, kept(), slices.Repeat([]int{2}, 200)} {
		for n := range 1 + reads + writes {
			b := begun(t)
			b.j.Commit(of(300, 3)) // 3 is in the list: it alone is written, and waits
			b.m.commit(of(300, 3))
			was, s, disk := b.d.Counts(), b.j.State(), slices.Clone(b.m.disk)
			b.d.Arm(n, keep)
			if got := b.j.Commit(of(400, 2, 3)); got != api.ErrDown {
				t.Fatalf("down at %d: %v", n, got)
			}
			if !same(b.j.State(), s) || b.j.Room() != b.m.room() {
				t.Fatalf("down at %d: changed to %+v", n, b.j.State())
			}
			cost := api.Counts{Reads: was.Reads + min(max(n-1, 0), reads), Writes: was.Writes + max(n-1-reads, 0), Flushes: was.Flushes + min(n, 1)}
			if b.d.Counts() != cost {
				t.Fatalf("down at %d: %+v, want %+v", n, b.d.Counts(), cost)
			}
			b.dead(t)
			b.leaves(t, n, reads, keep, disk)
		}
	}
}

// leaves asks what a crash left of the batch that waited, and of the one that was being written.
func (b bench) leaves(t *testing.T, n, reads int, keep []int, disk [][]byte) {
	t.Helper()
	fate := 0
	if keep != nil {
		fate = keep[0]
	}
	at := b.m.s.Head - 1 // of the one that waited: flushed, but if the flush was not done
	b.m.commit(of(400, 2, 3))
	for place, want := range disk {
		begun := place == at && n == 0 || place > at && place <= at+n-1-reads // it waited when the crash came
		switch {
		case begun && fate == 0:
			want = nil
		case begun && fate == 1:
			want = b.m.disk[place]
		}
		got, err := b.d.Read(place + 1)
		if torn := begun && fate == 2; torn != (err == api.ErrTorn) {
			t.Fatalf("down at %d: place %d: %v", n, place, err)
		} else if !torn && !bytes.Equal(got, append(want, make([]byte, 512-len(want))...)) {
			t.Fatalf("down at %d: place %d: %x ..", n, place, got[:32])
		}
	}
}

func TestH2DownAtARead(t *testing.T) {
	for _, restarted := range []bool{false, true} {
		b := begun(t)
		b.d.Arm(2, nil)
		for range 2 {
			if _, err := b.j.Read(0); err != api.OK {
				t.Fatal(err)
			}
		}
		b.j.Read(2) // no operation
		if b.d.Down() || b.j.Broken() {
			t.Fatal("down")
		}
		answers(t, b.j, 0, api.ErrDown)
		if restarted {
			b.d.Start()
		}
		b.dead(t)
	}
}

func TestH2DownAtAFlush(t *testing.T) {
	b := begun(t)
	b.d.Arm(0, nil)
	if b.j.Broken() {
		t.Fatal("broken")
	}
	if got := b.j.Flush(); got != api.ErrDown {
		t.Fatal(got)
	}
	b.dead(t)
}

func TestH2ACrashThatNobodySawBreaksNothing(t *testing.T) {
	b := begun(t)
	b.d.Crash(nil)
	b.told(t)
	if b.j.Broken() {
		t.Fatal("broken")
	}
	b.d.Start()
	b.holds(t)
	b.does(t, of(1, 2), api.OK)
	for i, call := range []func(b bench) api.Errno{
		func(b bench) api.Errno { _, err := b.j.Read(5); return err },
		func(b bench) api.Errno { return b.j.Commit(of(0, 2)) },
		func(b bench) api.Errno { return b.j.Flush() },
	} {
		b := begun(t)
		b.d.Crash(nil)
		if got := call(b); got != api.ErrDown {
			t.Errorf("call %d: %v", i, got)
		}
		b.dead(t)
	}
}

// others is what a sector may have that does not belong where block 0 is.
func others(t *testing.T) [][]byte {
	t.Helper()
	right, err := tag.Encode(tag.Tag{Epoch: 3, Start: 4, Seq: 8, Floor: 7, Count: 1, ID: 0}, blockOf(1))
	if err != api.OK {
		t.Fatal(err)
	}
	l := [][]byte{make([]byte, 512), mark}
	for _, c := range []struct {
		at int
		to byte
	}{{0, 'h'}, {4, 0}, {8, 0}, {27, 0}, {28, 1}, {28, 5}, {29, 1}, {30, 1}, {31, 1}, {26, 1}, {27, 73}, {14, 8}, {20, 9}} {
		b := bytes.Clone(right)
		b[c.at] = c.to
		l = append(l, b)
	}
	return l
}

func TestH2ASectorThatHasNotWhatBelongsThere(t *testing.T) {
	for i, raw := range others(t) {
		b := begun(t)
		put(t, b.d, 23, raw) // where 0 is
		was := b.d.Counts()
		answers(t, b.j, 0, api.ErrDown)
		was.Reads++
		if b.d.Counts() != was {
			t.Fatalf("%d: %+v", i, b.d.Counts())
		}
		b.dead(t)
		b = begun(t)
		put(t, b.d, 23, raw)
		was = b.d.Counts()
		if got := b.j.Commit(of(50, 2, 4)); got != api.ErrDown { // 3, 0 and 5 would move
			t.Fatalf("%d: %v", i, got)
		}
		was.Flushes++
		was.Reads += 2
		if b.d.Counts() != was {
			t.Fatalf("%d: %+v, want %+v", i, b.d.Counts(), was)
		}
		b.dead(t)
	}
}

func TestH2ASectorThatIsTorn(t *testing.T) {
	torn := func() bench {
		b := begun(t)
		put(t, b.d, 23, mark)
		b.d.Crash([]int{2})
		b.d.Start()
		return b
	}
	b := torn()
	answers(t, b.j, 0, api.ErrDown)
	b.dead(t)
	b = torn()
	if got := b.j.Commit(of(50, 2, 4)); got != api.ErrDown {
		t.Fatal(got)
	}
	b.dead(t)
}

func TestH2ASectorThatNobodyReadsMayHaveAnything(t *testing.T) {
	for _, c := range []struct {
		place int
		ids   []int
		ok    bool
	}{
		{22, []int{2, 4}, false}, {22, []int{0, 2}, true}, {22, []int{2}, true}, // in the list; not cleaned
		{21, []int{2, 4}, true}, {1, []int{2, 4, 5}, true}, // no block is there
		{0, []int{2, 3}, true}, {0, []int{2, 3, 1}, false}, {3, []int{2, 3, 5}, true}, {3, []int{2, 3, 5, 0}, false},
		{4, []int{2}, true}, {10, []int{2}, true}, {19, []int{2}, true}, // not in use
	} {
		b := begun(t)
		put(t, b.d, c.place+1, mark)
		if got := b.j.Commit(of(9, c.ids...)); (got == api.OK) != c.ok || b.j.Broken() == c.ok {
			t.Errorf("place %d, %v: %v", c.place, c.ids, got)
		}
	}
}

func TestH2WhatWasHandedInIsNotKept(t *testing.T) {
	b := plainOf(t, 30, 4)
	l := of(1, 2, 0)
	whole := of(1, 2, 0)
	b.commits(t, l)
	for i := range l {
		if l[i].ID != whole[i].ID || !bytes.Equal(l[i].Data, whole[i].Data) || len(l) != 2 {
			t.Fatal("the list was changed")
		}
		clear(l[i].Data)
		l[i] = api.Write{ID: 3}
	}
	b.holds(t)
	long := of(5, 1, 3, 2, 0) // the list ends ahead of what it stands in: that stays as it is
	b.does(t, long[:1], api.OK)
	if long[1].ID != 3 || long[2].ID != 2 || long[3].ID != 0 || !bytes.Equal(long[1].Data, blockOf(6)) {
		t.Error("behind the list")
	}
	one := make([]byte, 1000) // also behind the bytes
	copy(one, blockOf(77))
	b.does(t, []api.Write{{ID: 3, Data: one[:480]}}, api.OK)
	if !bytes.Equal(one[480:], make([]byte, 520)) {
		t.Error("behind the bytes")
	}
	both := blockOf(78) // two blocks may have the same bytes
	b.does(t, []api.Write{{ID: 3, Data: both}, {ID: 1, Data: both}}, api.OK)
}

func TestH2WhatIsToldIsTheCallersOwn(t *testing.T) {
	b := begun(t)
	for range 2 {
		for id := range 6 {
			got, err := b.j.Read(id)
			if err != api.OK {
				t.Fatal(err)
			}
			clear(got)
			got = append(got, mark...)
			copy(got, "mine")
		}
		b.holds(t)
	}
	b.does(t, of(3, 2), api.OK)
}

func TestH2JournalsHaveNothingToDoWithEachOther(t *testing.T) {
	a, b := plainOf(t, 30, 4), plainOf(t, 30, 4)
	for n := range 20 {
		a.commits(t, of(n, n%4))
		b.commits(t, of(n+500, (n+1)%4, (n+2)%4))
	}
	a.holds(t)
	b.holds(t)
	a.d.Crash(nil)
	a.j.Flush()
	a.dead(t)
	b.holds(t)
	again, err := New(a.d, 30, State{Epoch: 1, Start: 1, At: none(4)}) // it knows nothing of what befell another one
	if err != api.OK || again.Broken() || again.Commit(of(1, 2)) != api.OK || !a.j.Broken() {
		t.Error(err)
	}
}

func TestH2GreatestJournal(t *testing.T) {
	b := plainOf(t, 19997, 3840)
	for n := range 160 {
		b.commits(t, of(n*100, from(n*24, 24)...))
	}
	for n := range 900 { // far round
		b.commits(t, of(n, n*37%3840))
	}
	b.holds(t)
	whole := benchOf(t, 19997, State{Epoch: 1, Start: 1, Head: 3840, Used: 3840, At: from(0, 3840)})
	whole.does(t, of(1, 3839), api.OK)
}

// eachState is all ways in which blocks can be at places in use.
func eachState(places, blocks int) []State {
	var list []State
	for head := range places {
		for used := 0; used <= places; used++ {
			grow(State{Epoch: 2, Start: 3, Seq: 9, Head: head, Used: used}, places, blocks, &list)
		}
	}
	return list
}

func grow(s State, places, blocks int, list *[]State) {
	if blocks == 0 {
		*list = append(*list, s)
		return
	}
	for place := -1; place < places; place++ {
		x := s
		x.At = append(slices.Clone(s.At), place)
		if Right(places, x) {
			grow(x, places, blocks-1, list)
		}
	}
}

// TestH2EachBatchFromEachState does each list of blocks in small journals of each state, and one more behind it.
func TestH2EachBatchFromEachState(t *testing.T) {
	lists := [][]int{{0}, {1}, {2}, {0, 1}, {1, 0}, {0, 2}, {2, 1}, {0, 1, 2}, {2, 0, 1}}
	seen := map[string]int{}
	for _, c := range []struct{ places, blocks int }{{1, 2}, {2, 2}, {3, 2}, {4, 2}, {5, 2}, {3, 3}, {4, 3}, {6, 1}} {
		for _, s := range eachState(c.places, c.blocks) {
			for i, ids := range lists {
				b := benchOf(t, c.places, s)
				err := b.commits(t, of(10, ids...))
				seen[err.Error()+" "+strconv.Itoa(c.places)]++
				b.commits(t, of(20, lists[(i+1)%len(lists)]...))
				b.commits(t, of(30, 0))
				b.holds(t)
			}
		}
	}
	for _, places := range []string{"1", "2", "3", "4", "5"} {
		if seen["error 0 "+places] == 0 || seen["error 9 "+places] == 0 {
			t.Errorf("%s places: %v", places, seen)
		}
	}
}

// dice are numbers that look like chance, and are the same each time.
type dice uint64

func (d *dice) next(n int) int {
	*d ^= *d << 13
	*d ^= *d >> 7
	*d ^= *d << 17
	return int(uint64(*d) % uint64(n))
}

// some is a list of so many blocks, none twice.
func (d *dice) some(n, blocks int) []int {
	ids := from(0, blocks)
	for i := range n {
		k := i + d.next(blocks-i)
		ids[i], ids[k] = ids[k], ids[i]
	}
	return ids[:n]
}

func TestH2AgainstAModel(t *testing.T) {
	d := dice(88172645463325252)
	for _, c := range []struct{ places, blocks int }{{1, 1}, {2, 3}, {5, 3}, {8, 5}, {13, 4}, {20, 12}, {31, 9}, {60, 30}, {64, 25}} {
		b := benchOf(t, c.places, State{Epoch: 1, Start: 1, Head: c.places / 2, At: none(c.blocks)})
		for step := range 300 {
			n := 1 + d.next(min(c.blocks, 24))
			if d.next(3) > 0 {
				n = 1 + d.next(min(c.blocks, 3))
			}
			err := b.commits(t, of(step*100, d.some(n, c.blocks)...))
			if step%10 == 0 {
				b.holds(t)
			}
			if err == api.ErrFull && d.next(4) == 0 || d.next(40) == 0 { // another journal goes on from the state of this one
				j, err := New(b.d, c.places, b.j.State())
				if err != api.OK {
					t.Fatal(err)
				}
				b.j, b.m.freed = j, 0
			}
		}
		b.holds(t)
	}
}

// TestH2NeverFull holds the chapter's consequences: in as few places as the rule asks for no batch is refused, and each costs what it may at most.
func TestH2NeverFull(t *testing.T) {
	d := dice(2463534242)
	ways := []func(n, i, blocks int) []int{
		func(n, i, blocks int) []int { return d.some(n, blocks) },
		func(n, i, blocks int) []int { return from(0, n) },                   // the others have to move, and move
		func(n, i, blocks int) []int { return from(i*n%(blocks-n+1), n) },    // on and on
		func(n, i, blocks int) []int { return from(i%2*(blocks-n), n) },      // the first ones, the last ones
		func(n, i, blocks int) []int { return d.some(1+d.next(n), blocks) },  // of all sizes
		func(n, i, blocks int) []int { return d.some(1+i%2*(n-1), blocks) },  // one, and many
		func(n, i, blocks int) []int { return from(blocks-1-i%blocks/2, 1) }, // one at a time
	}
	for _, blocks := range []int{4, 24, 25, 40, 96, 333} {
		places := (5*blocks + 240 + 1) / 2
		for way, ids := range ways {
			b := benchOf(t, places, State{Epoch: 1, Start: 1, Head: places - 7, At: none(blocks)})
			for i := range 4*places/24 + 100 {
				l := of(i, ids(min(24, blocks), i, blocks)...)
				if err := b.commits(t, l); err != api.OK {
					t.Fatalf("%d blocks, way %d: batch %d: %v, room %d", blocks, way, i, err, b.j.Room())
				}
				if b.m.reads > 2*len(l) || b.m.writes > 3*len(l) || b.m.flushes != 1 {
					t.Fatalf("%d blocks, way %d: batch %d: %+v", blocks, way, i, b.m)
				}
			}
			b.holds(t)
		}
	}
}
