package journal

import (
	"bytes"
	"encoding/binary"
	"slices"
	"testing"

	"harrow/api"
	"harrow/device"
	"harrow/tag"
)

// spare is how many sectors a device of the tests has behind the places: a journal has nothing to do there.
const spare = 2

// blockOf has bytes that tell a number.
func blockOf(n int) []byte {
	b := make([]byte, 480)
	for i := range b {
		b[i] = byte(n + i*7 + i/256)
	}
	binary.LittleEndian.PutUint64(b, uint64(n))
	return b
}

// mark is what stands in the sectors that are no places.
var mark = slices.Repeat([]byte{0xA5}, 512)

// none is where so many blocks are that were never written.
func none(n int) []int { return slices.Repeat([]int{-1}, n) }

// of is a list of blocks, each with bytes of its own.
func of(n int, ids ...int) []api.Write {
	var l []api.Write
	for i, id := range ids {
		l = append(l, api.Write{ID: id, Data: blockOf(n + i)})
	}
	return l
}

// from is so many numbers, one more each.
func from(first, n int) []int {
	l := make([]int, n)
	for i := range l {
		l[i] = first + i
	}
	return l
}

// A model does what the chapter says, step by step, and looks through its lists whenever it has to know.
type model struct {
	places, freed int
	s             State
	data          [][]byte // of each block
	disk          [][]byte // what each place was written with, waiting or not; nil: nothing
	reads         int      // of the last Commit
	writes        int
	flushes       int
}

// use is the places in use, the tail first.
func (m *model) use() []int {
	var l []int
	for i := range m.s.Used {
		l = append(l, (m.s.Head+m.places-m.s.Used+i)%m.places)
	}
	return l
}

func (m *model) room() int { return m.places - m.s.Used - m.freed }

// wrong tells whether a list is none that may be written.
func (m *model) wrong(l []api.Write) bool {
	for i, w := range l {
		for _, v := range l[:i] {
			if v.ID == w.ID {
				return true
			}
		}
		if w.ID < 0 || w.ID > len(m.s.At)-1 || len(w.Data) != 480 {
			return true
		}
	}
	return len(l) == 0 || len(l) > 24
}

// commit is Commit on a device that is up.
func (m *model) commit(l []api.Write) api.Errno {
	m.reads, m.writes, m.flushes = 0, 0, 0
	if m.wrong(l) {
		return api.ErrArg
	}
	if m.s.Seq == 1<<48-1 {
		return api.ErrState
	}
	m.flushes = 1
	all := slices.Clone(l)
	use := m.use()
	cleaned := use[:min(2*len(l), len(use))]
	for _, place := range cleaned {
		id := slices.Index(m.s.At, place)
		if id >= 0 && !slices.ContainsFunc(l, func(w api.Write) bool { return w.ID == id }) {
			m.reads++
			all = append(all, api.Write{ID: id, Data: m.data[id]})
		}
	}
	if len(all) > m.room() {
		return api.ErrFull
	}
	m.writes = len(all)
	for i, w := range all {
		place := (m.s.Head + i) % m.places
		t := tag.Tag{Epoch: m.s.Epoch, Start: m.s.Start, Seq: m.s.Seq + 1, Floor: m.s.Seq, Index: i, Count: len(all), ID: w.ID}
		m.disk[place], _ = tag.Encode(t, w.Data)
		m.s.At[w.ID], m.data[w.ID] = place, slices.Clone(w.Data)
	}
	m.s.Seq++
	m.s.Head = (m.s.Head + len(all)) % m.places
	m.s.Used += len(all) - len(cleaned)
	m.freed = len(cleaned)
	return api.OK
}

// A bench is a journal, its device, and their model.
type bench struct {
	j *Journal
	d *device.Device
	m *model
}

// benchOf is a journal with a state; each block that is anywhere was written there, and flushed.
func benchOf(t *testing.T, places int, s State) bench {
	t.Helper()
	d, err := device.New(places + 1 + spare)
	if err != api.OK {
		t.Fatal(err)
	}
	at := slices.Clone(s.At)
	m := &model{places: places, s: s, data: make([][]byte, len(s.At)), disk: make([][]byte, places)}
	m.s.At = at
	for i := range spare {
		put(t, d, places+1+i, mark)
	}
	put(t, d, 0, mark)
	for id, place := range at {
		m.data[id] = make([]byte, 480)
		if place >= 0 {
			m.data[id] = blockOf(9000 + id)
			m.disk[place], err = tag.Encode(tag.Tag{Epoch: 1, Start: 1, Seq: 1, Count: 1, ID: id}, m.data[id])
			if err != api.OK {
				t.Fatal(err)
			}
			put(t, d, place+1, m.disk[place])
		}
	}
	if d.Flush() != api.OK {
		t.Fatal("Flush")
	}
	j, err := New(d, places, s)
	if j == nil || err != api.OK {
		t.Fatalf("New of %d places, %+v: %v", places, s, err)
	}
	b := bench{j, d, m}
	b.told(t)
	return b
}

// plainOf is a journal of blocks none of which was written.
func plainOf(t *testing.T, places, blocks int) bench {
	t.Helper()
	return benchOf(t, places, State{Epoch: 1, Start: 1, At: none(blocks)})
}

func put(t *testing.T, d *device.Device, at int, b []byte) {
	t.Helper()
	if err := d.Write(at, b); err != api.OK {
		t.Fatalf("sector %d: %v", at, err)
	}
}

func same(a, b State) bool {
	return a.Epoch == b.Epoch && a.Start == b.Start && a.Seq == b.Seq && a.Head == b.Head && a.Used == b.Used && slices.Equal(a.At, b.At)
}

// told asks what costs nothing.
func (b bench) told(t *testing.T) {
	t.Helper()
	was := b.d.Counts()
	if got := b.j.State(); !same(got, b.m.s) {
		t.Fatalf("State: %+v, want %+v", got, b.m.s)
	}
	if got := b.j.Room(); got != b.m.room() {
		t.Fatalf("Room: %d, want %d, of %+v", got, b.m.room(), b.m.s)
	}
	if b.d.Counts() != was {
		t.Fatal("the device was asked")
	}
}

// reads asks for each block, and what that costs.
func (b bench) reads(t *testing.T) {
	t.Helper()
	for id, want := range b.m.data {
		cost := b.d.Counts()
		if b.m.s.At[id] >= 0 {
			cost.Reads++
		}
		got, err := b.j.Read(id)
		if err != api.OK || !bytes.Equal(got, want) {
			t.Fatalf("Read(%d): %v, %x .., want %x ..", id, err, got[:min(8, len(got))], want[:8])
		}
		if b.d.Counts() != cost {
			t.Fatalf("Read(%d): %+v, want %+v", id, b.d.Counts(), cost)
		}
	}
}

// lies asks the device for each sector.
func (b bench) lies(t *testing.T) {
	t.Helper()
	for at := range b.m.places + 1 + spare {
		want := mark
		if at >= 1 && at <= b.m.places {
			want = make([]byte, 512)
			copy(want, b.m.disk[at-1])
		}
		got, err := b.d.Read(at)
		if err != api.OK || !bytes.Equal(got, want) {
			t.Fatalf("sector %d: %v, %x .., want %x ..", at, err, got[:min(32, len(got))], want[:32])
		}
	}
}

// holds asks for all that there is to ask for.
func (b bench) holds(t *testing.T) {
	t.Helper()
	if b.j.Broken() {
		t.Fatal("broken")
	}
	b.told(t)
	b.reads(t)
	b.lies(t)
	b.told(t)
}

// commits hands journal and model the same list, and asks that both answer the same, at the same cost.
func (b bench) commits(t *testing.T, l []api.Write) api.Errno {
	t.Helper()
	was := b.d.Counts()
	want := b.m.commit(l)
	if got := b.j.Commit(l); got != want {
		t.Fatalf("Commit of %d blocks: %v, want %v", len(l), got, want)
	}
	cost := api.Counts{Reads: was.Reads + b.m.reads, Writes: was.Writes + b.m.writes, Flushes: was.Flushes + b.m.flushes}
	if b.d.Counts() != cost {
		t.Fatalf("Commit of %d blocks: %+v behind %+v, want %+v", len(l), b.d.Counts(), was, cost)
	}
	b.told(t)
	return want
}

// does is a Commit of which it is known what it answers.
func (b bench) does(t *testing.T, l []api.Write, want api.Errno) {
	t.Helper()
	if got := b.commits(t, l); got != want {
		t.Fatalf("Commit: %v, want %v", got, want)
	}
	b.holds(t)
}

// dead asks that a journal is broken, whatever becomes of its device, and that it changes and asks nothing any more.
func (b bench) dead(t *testing.T) {
	t.Helper()
	for range 2 {
		was := b.d.Counts()
		if !b.j.Broken() {
			t.Fatal("not broken")
		}
		for id := range b.m.data {
			answers(t, b.j, id, api.ErrDown)
		}
		for _, id := range []int{-1, len(b.m.data)} {
			answers(t, b.j, id, api.ErrArg)
		}
		want := api.ErrDown
		if b.m.s.Seq == 1<<48-1 {
			want = api.ErrState
		}
		for _, e := range []struct{ got, want api.Errno }{
			{b.j.Flush(), api.ErrDown},
			{b.j.Commit(of(0, 0)), want},
			{b.j.Commit(nil), api.ErrArg},
			{b.j.Commit(of(0, len(b.m.data))), api.ErrArg},
			{b.j.Commit([]api.Write{{ID: 0}}), api.ErrArg},
			{b.j.Commit(of(0, 0, 0)), api.ErrArg},
		} {
			if e.got != e.want {
				t.Fatalf("broken: %v, want %v", e.got, e.want)
			}
		}
		if b.d.Counts() != was {
			t.Fatal("the device was asked")
		}
		b.told(t)
		b.d.Start()
	}
}

// answers asks that Read has an error, and nothing beside it.
func answers(t *testing.T, j *Journal, id int, want api.Errno) {
	t.Helper()
	if got, err := j.Read(id); err != want || len(got) != 0 {
		t.Fatalf("Read(%d): %d bytes, %v, want none, and %v", id, len(got), err, want)
	}
}
