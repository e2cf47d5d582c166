package replay

import (
	"bytes"
	"math"
	"slices"
	"testing"

	"harrow/api"
	"harrow/device"
	"harrow/journal"
	"harrow/tag"
)

// A world is a journal on a device, and what its blocks had behind each batch that a crash may leave.
type world struct {
	d              *device.Device
	j              *journal.Journal
	places, blocks int
	epoch          uint32
	behind         map[uint64][]int // by the number of a batch: of each block the number of its bytes; 0: it was never written
	sure, last     uint64           // the last batch that was flushed; the last one of which anything was written
	waits          int              // how many writes were not flushed
	step           int
}

// worldOf is the journal of a device that has nothing.
func worldOf(t *testing.T, places, blocks int) *world {
	t.Helper()
	w := &world{d: deviceOf(t, places+1+spare), places: places, blocks: blocks, behind: map[uint64][]int{0: make([]int, blocks)}}
	for _, at := range []int{0, places + 1, places + 2} {
		put(t, w.d, at, sectorOf(t, T(1<<31, 1, 1<<40, 1<<40-1, 0, 1, 0)))
	}
	flush(t, w.d)
	w.mounts(t)
	return w
}

// mounts makes a journal of what Scan answers, and asks that it has all batches but, at most, the last one.
func (w *world) mounts(t *testing.T) {
	t.Helper()
	s := agrees(t, w.d, w.places, w.blocks)
	if s.Seq < w.sure || s.Seq > w.last || s.Seq+1 < w.last || s.Start != s.Seq+1 {
		t.Fatalf("%+v; %d was flushed, of %d was written", s, w.sure, w.last)
	}
	if s.Epoch > w.epoch+1 { // it may go back, if nothing is left of an epoch
		t.Fatalf("%+v behind epoch %d", s, w.epoch)
	}
	j, err := journal.New(w.d, w.places, s)
	if err != api.OK {
		t.Fatalf("%+v: %v", s, err)
	}
	for id, n := range w.behind[s.Seq] {
		want := make([]byte, 480)
		if n > 0 {
			want = blockOf(n)
		}
		if got, err := j.Read(id); err != api.OK || !bytes.Equal(got, want) || (s.At[id] < 0) != (n == 0) {
			t.Fatalf("block %d: %v, %x .., want %x .., of %+v", id, err, got[:min(8, len(got))], want[:8], s)
		}
	}
	w.j, w.epoch, w.sure, w.last = j, s.Epoch, s.Seq, s.Seq
}

// starts is a world behind a crash.
func (w *world) starts(t *testing.T) {
	t.Helper()
	if w.d.Start() != api.OK {
		t.Fatal("it was up")
	}
	w.waits = 0
	w.mounts(t)
}

// batch is a Commit, be the device up or not.
func (w *world) batch(t *testing.T, ids []int) api.Errno {
	t.Helper()
	w.step++
	var l []api.Write
	now := slices.Clone(w.behind[w.last])
	for _, id := range ids {
		now[id] = w.step*100 + id
		l = append(l, api.Write{ID: id, Data: blockOf(now[id])})
	}
	was := w.d.Counts()
	err := w.j.Commit(l)
	got := w.d.Counts()
	if got.Flushes > was.Flushes {
		w.sure, w.waits = w.last, 0
	}
	if n := got.Writes - was.Writes; n > 0 {
		w.last++
		w.behind[w.last] = now
		w.waits = n
	}
	return err
}

// does is batches on a device that fails nobody.
func (w *world) does(t *testing.T, lists ...[]int) {
	t.Helper()
	for _, ids := range lists {
		if err := w.batch(t, ids); err != api.OK {
			t.Fatalf("%v: %v", ids, err)
		}
	}
}

func (w *world) flushes(t *testing.T) {
	t.Helper()
	if err := w.j.Flush(); err != api.OK {
		t.Fatal(err)
	}
	w.sure, w.waits = w.last, 0
}

// crashes is a batch, and a Flush, of which so many operations are done. It tells whether the crash came.
func (w *world) crashes(t *testing.T, n int, keep []int, ids []int) bool {
	t.Helper()
	w.d.Arm(n, keep)
	err := w.batch(t, ids)
	if err == api.OK {
		err = w.j.Flush()
	}
	w.d.Arm(-1, nil)
	if err != api.ErrDown && err != api.OK && err != api.ErrFull {
		t.Fatal(err)
	}
	if err == api.OK {
		w.sure, w.waits = w.last, 0
	}
	return err == api.ErrDown
}

// keeps tells all that may become of so many writes.
func keeps(n int, yield func(keep []int)) {
	keep := make([]int, n)
	for {
		yield(slices.Clone(keep))
		i := 0
		for i < n && keep[i] == 2 {
			keep[i] = 0
			i++
		}
		if i == n {
			return
		}
		keep[i]++
	}
}

// eachCrash has a batch crash at each operation, with all that may become of what waits, and the world go on from there.
func eachCrash(t *testing.T, build func() *world, ids []int, do func(build func() *world)) int {
	t.Helper()
	count := 0
	for n := 0; ; n++ {
		probe := build()
		if !probe.crashes(t, n, nil, ids) {
			return count
		}
		keeps(probe.waits, func(keep []int) {
			count++
			do(func() *world {
				w := build()
				if !w.crashes(t, n, keep, ids) {
					t.Fatal("no crash")
				}
				w.starts(t)
				return w
			})
		})
	}
}

// onward is that a world goes on as if nothing had been.
func onward(t *testing.T, w *world, ids ...int) {
	t.Helper()
	w.does(t, ids)
	w.mounts(t) // what waits counts, too
	w.does(t, ids[:1])
	w.flushes(t)
	w.d.Crash(nil)
	w.starts(t)
}

func TestI1WhatAJournalHasWritten(t *testing.T) {
	for _, c := range []struct{ places, blocks int }{{30, 4}, {60, 12}, {130, 4}, {181, 48}} {
		w := worldOf(t, c.places, c.blocks)
		d := dice(362436069)
		for range 300 {
			if w.batch(t, d.some(1+d.next(min(c.blocks, 24)/2), c.blocks)) != api.OK {
				t.Fatal("a batch")
			}
			s, was := agrees(t, w.d, c.places, c.blocks), w.j.State()
			if s.Epoch != was.Epoch+1 || s.Start != was.Seq+1 || s.Seq != was.Seq || s.Head != was.Head || s.Used > was.Used || !slices.Equal(s.At, was.At) {
				t.Fatalf("%+v of %+v", s, was)
			}
			if !slices.Contains(s.At, (s.Head-s.Used+c.places)%c.places) {
				t.Fatalf("%+v: no block is at the tail", s)
			}
			if d.next(10) == 0 {
				w.mounts(t)
			}
		}
	}
}

// some is a list of so many blocks, none twice.
func (d *dice) some(n, blocks int) []int {
	ids := make([]int, blocks)
	for i := range ids {
		ids[i] = i
	}
	for i := range n {
		k := i + d.next(blocks-i)
		ids[i], ids[k] = ids[k], ids[i]
	}
	return ids[:n]
}

func TestI1EachCrashOfABatch(t *testing.T) {
	batches := [][]int{{0, 1}, {2}, {1}, {3, 0}, {0}, {2}, {3}, {1, 2}, {0}, {0}, {3}, {2, 3}, {1}, {1}, {0, 2}, {3}}
	for n := range batches {
		build := func() *world {
			w := worldOf(t, 20, 4)
			w.does(t, batches[:n]...)
			return w
		}
		count := eachCrash(t, build, batches[n], func(build func() *world) {
			w := build()
			onward(t, w, 3, 1)
		})
		if count < 10 {
			t.Errorf("batch %d: %d crashes", n, count)
		}
	}
}

func TestI1EachCrashBehindACrash(t *testing.T) {
	batches := [][]int{{0, 1}, {2}, {1}, {0}, {2}}
	count := 0
	for n := range batches {
		build := func() *world {
			w := worldOf(t, 14, 3)
			w.does(t, batches[:n]...)
			return w
		}
		eachCrash(t, build, batches[n], func(build func() *world) {
			count += eachCrash(t, build, []int{2}, func(build func() *world) {
				w := build()
				w.does(t, []int{1})
				w.d.Crash([]int{1})
				w.starts(t)
			})
		})
	}
	if count < 4000 {
		t.Errorf("%d crashes", count)
	}
}

func TestI1ACrashOfScanChangesNothing(t *testing.T) {
	w := worldOf(t, 20, 4)
	w.does(t, []int{0, 1}, []int{2}, []int{1})
	w.crashes(t, 3, []int{2}, []int{3, 0})
	for n := range 20 {
		w.d.Start()
		w.d.Arm(n, []int{1, 1, 1})
		refused(t, w.d, 20, 4, api.ErrDown)
	}
	w.starts(t)
	onward(t, w, 0, 1)
}

func TestI1CrashesWithoutABatch(t *testing.T) {
	w := worldOf(t, 20, 4)
	for range 5 { // no tag tells of them: the epoch stays
		w.d.Crash(nil)
		w.starts(t)
		if w.epoch != 1 || w.last != 0 {
			t.Fatal(w.epoch, w.last)
		}
	}
	w.does(t, []int{1})
	for i := range 5 {
		w.d.Crash([]int{1})
		w.starts(t)
		if w.epoch != 2 || w.last != 1 {
			t.Fatal(i, w.epoch, w.last)
		}
	}
	w.does(t, []int{2})
	w.d.Crash([]int{0, 0})
	w.starts(t)
	if w.epoch != 2 || w.last != 1 {
		t.Fatal(w.epoch, w.last)
	}
	w.does(t, []int{2})
	w.d.Crash([]int{0, 1}) // the second one of two
	w.starts(t)
	if w.epoch != 3 || w.last != 1 {
		t.Fatal(w.epoch, w.last)
	}
}

// TestI1LongRuns has crashes upon crashes, at any operation, also of Scan, with anything of what waits.
func TestI1LongRuns(t *testing.T) {
	d := dice(521288629)
	for _, c := range []struct{ places, blocks, most, crashes int }{
		{24, 3, 3, 800}, {40, 6, 3, 800}, {130, 4, 4, 500}, {150, 12, 12, 400}, {181, 24, 24, 300}, {245, 50, 24, 300}, {370, 100, 24, 200},
	} {
		w := worldOf(t, c.places, c.blocks)
		lost, done := 0, 0
		for range c.crashes {
			for range d.next(4) {
				w.does(t, d.some(1+d.next(c.most), c.blocks))
			}
			var keep []int
			way := d.next(6)
			for range 160 {
				k := way
				if way >= 3 {
					k = d.next(way)
				}
				keep = append(keep, k)
			}
			if !w.crashes(t, d.next(1+d.next(4+c.most*3)), keep, d.some(1+d.next(c.most), c.blocks)) {
				w.d.Crash(keep)
			}
			if d.next(5) == 0 {
				w.d.Start()
				w.d.Arm(d.next(c.places), keep)
				refused(t, w.d, c.places, c.blocks, api.ErrDown)
			}
			last := w.last
			w.starts(t)
			if w.last < last {
				lost++
			} else {
				done++
			}
		}
		if lost < 20 || done < 20 {
			t.Errorf("%+v: %d were lost, %d were not", c, lost, done)
		}
	}
}

// TestI1TheLastBatches has a journal go on to where no number is left.
func TestI1TheLastBatches(t *testing.T) {
	d := laid(t, 20, map[int]tag.Tag{4: T(math.MaxUint32-2, 1, maxSeq-3, maxSeq-4, 0, 1, 0)})
	for n, epoch := range []uint32{math.MaxUint32 - 1, math.MaxUint32} {
		s := scanned(t, d, 20, 3)
		if s.Epoch != epoch || s.Seq != maxSeq-3+uint64(n) {
			t.Fatal(s)
		}
		j, _ := journal.New(d, 20, s)
		if j.Commit([]api.Write{{ID: n, Data: blockOf(n)}}) != api.OK || j.Flush() != api.OK {
			t.Fatal("Commit")
		}
	}
	refused(t, d, 20, 3, api.ErrState) // no epoch is left
	d = laid(t, 20, map[int]tag.Tag{4: T(1, 1, maxSeq-1, maxSeq-2, 0, 1, 0)})
	s := scanned(t, d, 20, 3)
	j, _ := journal.New(d, 20, s)
	if j.Commit([]api.Write{{ID: 1, Data: blockOf(1)}}) != api.OK || j.State().Seq != maxSeq {
		t.Fatal("Commit")
	}
	refused(t, d, 20, 3, api.ErrState) // no number is left
	d.Crash(nil)
	d.Start()
	tells(t, d, 20, s) // it was lost
}
