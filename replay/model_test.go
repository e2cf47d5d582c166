package replay

import (
	"bytes"
	"encoding/binary"
	"slices"
	"testing"

	"harrow/api"
	"harrow/device"
	"harrow/journal"
	"harrow/tag"
)

// spare is how many sectors a device of the tests has behind the places: they tell nothing.
const spare = 2

const maxSeq = 1<<48 - 1

// T is a tag in the order of the chapter's words: which batch, which sector of it, which block.
func T(epoch uint32, start, seq, floor uint64, index, count, id int) tag.Tag {
	return tag.Tag{Epoch: epoch, Start: start, Seq: seq, Floor: floor, Index: index, Count: count, ID: id}
}

// none is where so many blocks are that were never written.
func none(n int) []int { return slices.Repeat([]int{-1}, n) }

// blockOf has bytes that tell a number.
func blockOf(n int) []byte {
	b := make([]byte, 480)
	for i := range b {
		b[i] = byte(n + i*7 + i/256)
	}
	binary.LittleEndian.PutUint64(b, uint64(n))
	return b
}

func deviceOf(t *testing.T, sectors int) *device.Device {
	t.Helper()
	d, err := device.New(sectors)
	if err != api.OK {
		t.Fatal(err)
	}
	return d
}

func put(t *testing.T, d *device.Device, at int, b []byte) {
	t.Helper()
	if err := d.Write(at, b); err != api.OK {
		t.Fatalf("sector %d: %v", at, err)
	}
}

func flush(t *testing.T, d *device.Device) {
	t.Helper()
	if err := d.Flush(); err != api.OK {
		t.Fatal(err)
	}
}

// sectorOf has a tag, and a block that hangs on it.
func sectorOf(t *testing.T, x tag.Tag) []byte {
	t.Helper()
	b, err := tag.Encode(x, blockOf(int(x.Seq)*100+x.ID))
	if err != api.OK {
		t.Fatalf("%+v: %v", x, err)
	}
	return b
}

// tear has a sector torn, whatever it had.
func tear(t *testing.T, d *device.Device, at int) {
	t.Helper()
	flush(t, d)
	put(t, d, at, make([]byte, 512))
	d.Crash([]int{2})
	if d.Start() != api.OK {
		t.Fatal("Start")
	}
}

// laid is a device that has a tag at each place that a map tells. Sectors that are no places have tags that would change all, were they read.
func laid(t *testing.T, places int, tags map[int]tag.Tag) *device.Device {
	t.Helper()
	d := deviceOf(t, places+1+spare)
	for _, at := range []int{0, places + 1, places + 2} {
		put(t, d, at, sectorOf(t, T(1<<31, 1, 1<<40, 1<<40-1, 0, 1, 0)))
	}
	for place := range places {
		if x, ok := tags[place]; ok {
			put(t, d, place+1, sectorOf(t, x))
		}
	}
	flush(t, d)
	return d
}

func same(a, b journal.State) bool {
	return a.Epoch == b.Epoch && a.Start == b.Start && a.Seq == b.Seq && a.Head == b.Head && a.Used == b.Used && slices.Equal(a.At, b.At)
}

// refused asks that an answer has an error, and nothing beside it.
func refused(t *testing.T, d *device.Device, places, blocks int, want api.Errno) {
	t.Helper()
	s, err := Scan(d, places, blocks)
	if err != want || !same(s, journal.State{}) {
		t.Fatalf("Scan of %d places, %d blocks: %v, %+v, want %v, and nothing", places, blocks, err, brief(s), want)
	}
}

// brief is a state without most of a long list.
func brief(s journal.State) journal.State {
	s.At = s.At[:min(len(s.At), 20)]
	return s
}

// scanned is a state, and asks what holds of each: what it costs, that nothing is changed, that it is the same again, and that a journal takes it.
func scanned(t *testing.T, d *device.Device, places, blocks int) journal.State {
	t.Helper()
	cost := d.Counts()
	cost.Reads += places
	s, err := Scan(d, places, blocks)
	if err != api.OK {
		t.Fatalf("Scan of %d places, %d blocks: %v", places, blocks, err)
	}
	if d.Counts() != cost {
		t.Fatalf("Scan: %+v, want %+v", d.Counts(), cost)
	}
	if len(s.At) != blocks || !journal.Right(places, s) {
		t.Fatalf("Scan: %+v is no state", brief(s))
	}
	at := slices.Clone(s.At)
	again, err := Scan(d, places, blocks)
	if err != api.OK || !same(again, s) {
		t.Fatalf("Scan again: %+v, %v, want %+v", brief(again), err, brief(s))
	}
	for i := range again.At {
		again.At[i] = 7
	}
	if !slices.Equal(s.At, at) {
		t.Fatal("two answers share their blocks")
	}
	return s
}

// tells asks for one state of what is laid.
func tells(t *testing.T, d *device.Device, places int, want journal.State) {
	t.Helper()
	if got := scanned(t, d, places, len(want.At)); !same(got, want) {
		t.Fatalf("Scan: %+v, want %+v", got, want)
	}
	if want, err := modelOf(t, d, places, len(want.At)).state(); err != api.OK || !same(scanned(t, d, places, len(want.At)), want) {
		t.Fatalf("the model: %+v, %v", want, err)
	}
}

// A model does what the chapter says, word by word, and looks through all tags whenever it has to know.
type model struct {
	places, blocks int
	at             []int // where each tag is
	tags           []tag.Tag
}

// modelOf asks the device for what it has.
func modelOf(t *testing.T, d *device.Device, places, blocks int) *model {
	t.Helper()
	m := &model{places: places, blocks: blocks}
	for place := range places {
		b, err := d.Read(place + 1)
		if err == api.ErrTorn {
			continue
		}
		if err != api.OK {
			t.Fatal(err)
		}
		x, block, err := tag.Decode(b)
		if err != api.OK || x.ID >= blocks {
			continue
		}
		if !bytes.Equal(block, b[32:]) {
			t.Fatal("a block")
		}
		m.at, m.tags = append(m.at, place), append(m.tags, x)
	}
	return m
}

func (m *model) stale(i int) bool {
	for k, other := range m.tags {
		if k != i && other.Epoch > m.tags[i].Epoch && !(other.Start > m.tags[i].Seq) {
			return true
		}
	}
	return false
}

// trues is which tags are true, and of a batch.
func (m *model) trues(seq uint64) []int {
	var l []int
	for i, x := range m.tags {
		if x.Seq == seq && !m.stale(i) {
			l = append(l, i)
		}
	}
	return l
}

func (m *model) whole(seq uint64) bool {
	l := m.trues(seq)
	if len(l) == 0 {
		return false
	}
	count := m.tags[l[0]].Count
	for _, i := range l {
		if m.tags[i].Count != count {
			return false
		}
	}
	for index := range count {
		if !slices.ContainsFunc(l, func(i int) bool { return m.tags[i].Index == index }) {
			return false
		}
	}
	return true
}

func (m *model) state() (journal.State, api.Errno) {
	floor, epoch := uint64(0), uint64(0)
	for _, x := range m.tags {
		floor, epoch = max(floor, x.Floor), max(epoch, uint64(x.Epoch))
	}
	seq := floor
	if m.whole(floor + 1) {
		seq++
	}
	if epoch+1 > 1<<32-1 || seq+1 > maxSeq {
		return journal.State{}, api.ErrState
	}
	s := journal.State{Epoch: uint32(epoch + 1), Start: seq + 1, Seq: seq, At: none(m.blocks)}
	for id := range s.At {
		s.At[id] = m.place(id, seq)
	}
	index := -1
	for _, i := range m.trues(seq) {
		if m.tags[i].Index > index {
			index = m.tags[i].Index
			s.Head = (m.at[i] + m.tags[i].Count - index) % m.places
		}
	}
	for !m.held(s) {
		s.Used++
	}
	return s, api.OK
}

// place is where a block is: it goes back from the last batch, and asks for each tag.
func (m *model) place(id int, seq uint64) int {
	best := -1
	for i, x := range m.tags {
		if x.ID != id || x.Seq > seq || m.stale(i) {
			continue
		}
		if best < 0 || x.Seq > m.tags[best].Seq {
			best = i
		}
	}
	if best < 0 {
		return -1
	}
	return m.at[best]
}

// held tells whether each block that is anywhere is at a place in use.
func (m *model) held(s journal.State) bool {
	var use []int
	for i := range s.Used {
		use = append(use, (s.Head+2*m.places-1-i)%m.places)
	}
	for _, place := range s.At {
		if place != -1 && !slices.Contains(use, place) {
			return false
		}
	}
	return true
}

// agrees asks Scan and the model for the same.
func agrees(t *testing.T, d *device.Device, places, blocks int) journal.State {
	t.Helper()
	want, err := modelOf(t, d, places, blocks).state()
	if err != api.OK {
		refused(t, d, places, blocks, err)
		return journal.State{}
	}
	got := scanned(t, d, places, blocks)
	if !same(got, want) {
		t.Fatalf("Scan of %d places, %d blocks: %+v, want %+v", places, blocks, brief(got), brief(want))
	}
	return got
}

// dice are numbers that look like chance, and are the same each time.
type dice uint64

func (d *dice) next(n int) int {
	*d ^= *d << 13
	*d ^= *d >> 7
	*d ^= *d << 17
	return int(uint64(*d) % uint64(n))
}
