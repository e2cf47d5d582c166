package tag

import (
	"bytes"
	"encoding/binary"
	"math"
	"slices"
	"testing"

	"harrow/api"
)

// plain is a tag that is right, no number of it at an edge.
var plain = Tag{Epoch: 7, Start: 20, Seq: 30, Floor: 10, Index: 3, Count: 9, ID: 100}

// blockOf has bytes that tell where they stand, and which block it is.
func blockOf(n int) []byte {
	b := make([]byte, 480)
	for i := range b {
		b[i] = byte(n + i*7 + i/256)
	}
	return b
}

// form is a sector as the chapter tells it, of any numbers; of each the bytes that have a place.
func form(x Tag, block []byte) []byte {
	b := make([]byte, 32, 512)
	copy(b, "HRRW")
	binary.LittleEndian.PutUint32(b[4:], x.Epoch)
	six(b[8:], x.Seq)
	six(b[14:], x.Floor)
	six(b[20:], x.Start)
	b[26], b[27] = byte(x.Index), byte(x.Count)
	binary.LittleEndian.PutUint16(b[28:], uint16(x.ID))
	return append(b, block...)
}

func six(b []byte, n uint64) {
	var whole [8]byte
	binary.LittleEndian.PutUint64(whole[:], n)
	copy(b[:6], whole[:])
}

// parsed is the tag of a sector as the chapter tells it, and whether there is one.
func parsed(b []byte) (Tag, bool) {
	long := func(at int) uint64 {
		var whole [8]byte
		copy(whole[:], b[at:at+6])
		return binary.LittleEndian.Uint64(whole[:])
	}
	x := Tag{
		Epoch: binary.LittleEndian.Uint32(b[4:]), Seq: long(8), Floor: long(14), Start: long(20),
		Index: int(b[26]), Count: int(b[27]), ID: int(binary.LittleEndian.Uint16(b[28:])),
	}
	batch := !(x.Epoch == 0 || x.Start == 0 || x.Seq < x.Start || x.Seq <= x.Floor)
	place := !(x.Count > 72 || x.Index+1 > x.Count || x.ID > 3839)
	return x, string(b[:4]) == "HRRW" && b[30] == 0 && b[31] == 0 && batch && place
}

// has tells whether the bytes of a sector can tell such numbers at all.
func has(x Tag) bool {
	long := max(x.Start, x.Seq, x.Floor) < 1<<48
	return long && x.Index >= 0 && x.Index < 256 && x.Count >= 0 && x.Count < 256 && x.ID >= 0 && x.ID < 65536
}

// judged asks all three calls for a tag.
func judged(t *testing.T, x Tag, ok bool) {
	t.Helper()
	if got := Right(x); got != ok {
		t.Fatalf("Right(%+v): %v", x, got)
	}
	block := blockOf(x.ID)
	b, err := Encode(x, block)
	if !ok {
		if len(b) != 0 || err != api.ErrArg {
			t.Fatalf("Encode(%+v): %d bytes, %v, want none, and ErrArg", x, len(b), err)
		}
		if has(x) {
			refused(t, form(x, block), "a tag that is not right", x.ID)
		}
		return
	}
	if !bytes.Equal(b, form(x, block)) || err != api.OK {
		t.Fatalf("Encode(%+v): %v, %d bytes, %q", x, err, len(b), b)
	}
	taken(t, b, x, block)
}

// taken asks that a sector has a tag and a block.
func taken(t *testing.T, b []byte, x Tag, block []byte) {
	t.Helper()
	y, c, err := Decode(b)
	if y != x || !bytes.Equal(c, block) || err != api.OK {
		t.Fatalf("Decode of %+v: %+v, %d bytes, %v", x, y, len(c), err)
	}
}

// refused asks that bytes have no tag.
func refused(t *testing.T, b []byte, what string, n int) {
	t.Helper()
	if x, c, err := Decode(b); x != (Tag{}) || len(c) != 0 || err != api.ErrForm {
		t.Fatalf("Decode, %s %d: %+v, %d bytes, %v", what, n, x, len(c), err)
	}
}

// batches are numbers of batches, and whether such may be together.
var batches = []struct {
	start, seq, floor uint64
	ok                bool
}{
	{1, 1, 0, true}, {20, 30, 10, true}, {1, 2, 1, true}, {2, 2, 1, true}, {2, 2, 0, true}, {3, 3, 2, true},
	{1, MaxSeq, 0, true}, {MaxSeq, MaxSeq, MaxSeq - 1, true}, {MaxSeq - 1, MaxSeq, 0, true}, {MaxSeq - 1, MaxSeq - 1, MaxSeq - 2, true},
	{0, 0, 0, false}, {0, 1, 0, false}, {0, 30, 10, false}, {0, MaxSeq, 0, false}, // Start 0
	{1, 0, 0, false}, {2, 1, 0, false}, {31, 30, 10, false}, {MaxSeq, MaxSeq - 1, 0, false}, {MaxSeq + 1, MaxSeq, 0, false}, // Start above Seq
	{math.MaxUint64, 30, 10, false}, {1 << 63, 30, 10, false}, {1<<48 + 20, 30, 10, false}, {math.MaxUint64, MaxSeq, 0, false},
	{1, MaxSeq + 1, 0, false}, {MaxSeq + 1, MaxSeq + 1, MaxSeq, false}, {1, MaxSeq + 2, 0, false}, {20, 1<<48 + 30, 10, false}, // Seq above MaxSeq
	{1, 1 << 49, 0, false}, {1, 1 << 62, 0, false}, {1, 1 << 63, 0, false}, {1, 1<<63 - 1, 0, false}, {1, math.MaxUint64, 0, false},
	{math.MaxUint64, math.MaxUint64, math.MaxUint64 - 1, false}, {20, 1<<63 + 30, 10, false},
	{1, 1, 1, false}, {20, 30, 30, false}, {20, 30, 31, false}, {1, 1, 2, false}, {1, MaxSeq, MaxSeq, false}, {1, MaxSeq, MaxSeq + 1, false}, // Floor not below Seq
	{20, 30, 1 << 63, false}, {20, 30, math.MaxUint64, false}, {20, 30, 1 << 48, false}, {1, MaxSeq, math.MaxUint64, false},
}

// places are where in its batch a sector may be.
var places = []struct {
	index, count int
	ok           bool
}{
	{0, 1, true}, {3, 9, true}, {0, 2, true}, {1, 2, true}, {0, 71, true}, {70, 71, true}, {0, 72, true}, {71, 72, true}, {70, 72, true},
	{0, 0, false}, {-1, 0, false}, {1, 0, false}, {0, -1, false}, {-2, -1, false}, {0, -256, false}, {0, math.MinInt, false}, {0, 256, false},
	{0, 73, false}, {72, 73, false}, {71, 73, false}, {3, 265, false}, {3, 1 << 32, false}, {3, 1<<32 + 9, false}, {0, 255, false}, {0, math.MaxInt, false}, {math.MaxInt - 1, math.MaxInt, false},
	{-1, 1, false}, {-1, 9, false}, {-1, 72, false}, {-256, 9, false}, {-253, 9, false}, {math.MinInt, 9, false},
	{1, 1, false}, {2, 1, false}, {9, 9, false}, {10, 9, false}, {72, 72, false}, {73, 72, false}, {259, 9, false}, {1<<32 + 3, 9, false}, {math.MaxInt, 72, false},
}

var epochs = []struct {
	epoch uint32
	ok    bool
}{{0, false}, {1, true}, {2, true}, {7, true}, {255, true}, {256, true}, {1<<31 - 1, true}, {1 << 31, true}, {math.MaxUint32 - 1, true}, {math.MaxUint32, true}}

var ids = []struct {
	id int
	ok bool
}{
	{0, true}, {1, true}, {100, true}, {255, true}, {256, true}, {3838, true}, {3839, true},
	{-1, false}, {-65536, false}, {-65436, false}, {math.MinInt, false},
	{3840, false}, {3841, false}, {4096, false}, {65535, false}, {65536, false}, {65636, false}, {1<<32 + 100, false}, {math.MaxInt, false},
}

func TestE1Limits(t *testing.T) {
	if uint64(MaxSeq) != 281474976710655 || MaxCount != 72 {
		t.Error(uint64(MaxSeq), MaxCount)
	}
}

func TestE1ExampleOfTheChapter(t *testing.T) {
	refused(t, make([]byte, 512), "noughts", 512)
}

func TestE1EdgesOfEachNumber(t *testing.T) {
	judged(t, plain, true)
	judged(t, Tag{}, false)
	for _, e := range epochs {
		x := plain
		x.Epoch = e.epoch
		judged(t, x, e.ok)
	}
	for _, b := range batches {
		x := plain
		x.Start, x.Seq, x.Floor = b.start, b.seq, b.floor
		judged(t, x, b.ok)
	}
	for _, p := range places {
		x := plain
		x.Index, x.Count = p.index, p.count
		judged(t, x, p.ok)
	}
	for _, i := range ids {
		x := plain
		x.ID = i.id
		judged(t, x, i.ok)
	}
}

func TestE1EdgesTogether(t *testing.T) {
	for _, e := range epochs {
		for _, b := range batches {
			for _, p := range places {
				for _, i := range ids {
					x := Tag{e.epoch, b.start, b.seq, b.floor, p.index, p.count, i.id}
					if got := Right(x); got != (e.ok && b.ok && p.ok && i.ok) {
						t.Fatalf("Right(%+v): %v", x, got)
					}
				}
			}
		}
	}
	for n := range 20000 {
		e, b, p, i := epochs[n%len(epochs)], batches[n%len(batches)], places[n%len(places)], ids[n%len(ids)]
		judged(t, Tag{e.epoch, b.start, b.seq, b.floor, p.index, p.count, i.id}, e.ok && b.ok && p.ok && i.ok)
	}
}

func TestE1FloorAndStartMayStandEitherWay(t *testing.T) {
	for start := uint64(0); start <= 8; start++ {
		for floor := uint64(0); floor <= 8; floor++ {
			x := plain
			x.Start, x.Seq, x.Floor = start, 6, floor
			judged(t, x, start >= 1 && start <= 6 && floor <= 5)
		}
	}
}

func TestE1EachPlaceOfEachCount(t *testing.T) {
	for count := -2; count <= 300; count++ {
		for index := -2; index <= 300; index++ {
			x := plain
			x.Index, x.Count = index, count
			ok := index >= 0 && index < count && count <= 72
			if got := Right(x); got != ok {
				t.Fatalf("Right(%+v): %v", x, got)
			}
			if ok {
				judged(t, x, true)
			}
		}
	}
}

func TestE1EachBlock(t *testing.T) {
	for id := -10; id <= 4200; id++ {
		x := plain
		x.ID = id
		judged(t, x, id >= 0 && id <= 3839)
	}
}

func TestE1BytesOfOne(t *testing.T) {
	x := Tag{Epoch: 0x04030201, Start: 0x060504030201, Seq: 0x161514131211, Floor: 0x0C0B0A090807, Index: 0x21, Count: 0x42, ID: 0x0E31}
	b, err := Encode(x, blockOf(5))
	if len(b) != 512 || err != api.OK {
		t.Fatalf("%d bytes, %v", len(b), err)
	}
	for _, f := range []struct {
		name     string
		from, to int
		want     string
	}{
		{"word", 0, 4, "HRRW"},
		{"Epoch", 4, 8, "\x01\x02\x03\x04"},
		{"Seq", 8, 14, "\x11\x12\x13\x14\x15\x16"},
		{"Floor", 14, 20, "\x07\x08\x09\x0A\x0B\x0C"},
		{"Start", 20, 26, "\x01\x02\x03\x04\x05\x06"},
		{"Index", 26, 27, "\x21"},
		{"Count", 27, 28, "\x42"},
		{"ID", 28, 30, "\x31\x0E"},
		{"noughts", 30, 32, "\x00\x00"},
		{"block", 32, 512, string(blockOf(5))},
	} {
		if got := string(b[f.from:f.to]); got != f.want {
			t.Errorf("%s: %q, want %q", f.name, got, f.want)
		}
	}
	taken(t, b, x, blockOf(5))
}

func TestE1GreatestOfAll(t *testing.T) {
	x := Tag{Epoch: math.MaxUint32, Start: MaxSeq, Seq: MaxSeq, Floor: MaxSeq - 1, Index: 71, Count: 72, ID: 3839}
	block := bytes.Repeat([]byte{0xFF}, 480)
	b, err := Encode(x, block)
	want := "HRRW\xFF\xFF\xFF\xFF\xFF\xFF\xFF\xFF\xFF\xFF\xFE\xFF\xFF\xFF\xFF\xFF\xFF\xFF\xFF\xFF\xFF\xFF\x47\x48\xFF\x0E\x00\x00"
	if err != api.OK || len(b) != 512 || string(b[:32]) != want || !bytes.Equal(b[32:], block) {
		t.Fatalf("%v, %d bytes, %q", err, len(b), b)
	}
	taken(t, b, x, block)
}

func TestE1LeastOfAll(t *testing.T) {
	x := Tag{Epoch: 1, Start: 1, Seq: 1, Count: 1}
	b, err := Encode(x, make([]byte, 480))
	want := "HRRW\x01\x00\x00\x00\x01\x00\x00\x00\x00\x00\x00\x00\x00\x00\x00\x00\x01\x00\x00\x00\x00\x00\x00\x01\x00\x00\x00\x00"
	if err != api.OK || len(b) != 512 || string(b[:32]) != want || !bytes.Equal(b[32:], make([]byte, 480)) {
		t.Fatalf("%v, %d bytes, %q", err, len(b), b)
	}
	taken(t, b, x, make([]byte, 480))
}

func TestE1ThereAndBack(t *testing.T) {
	n := uint64(88172645463325252)
	next := func(below uint64) uint64 { // the same numbers each time
		n ^= n << 13
		n ^= n >> 7
		n ^= n << 17
		return n % below
	}
	for range 3000 {
		seq := 1 + next(MaxSeq)>>next(48)
		count := 1 + next(72)
		x := Tag{
			Epoch: uint32(1 + next(math.MaxUint32)), Start: 1 + next(seq), Seq: seq, Floor: next(seq),
			Index: int(next(count)), Count: int(count), ID: int(next(3840)),
		}
		judged(t, x, true)
	}
}

func TestE1BlocksOfOtherLengths(t *testing.T) {
	whole := bytes.Repeat([]byte{1}, 2000)
	for n := range len(whole) {
		want := api.ErrArg
		if n == 480 {
			want = api.OK
		}
		for i, x := range []Tag{plain, {Epoch: 1, Start: 1, Seq: 1, Count: 1}} {
			if b, err := Encode(x, whole[:n]); err != want || n == 480 && len(b) != 512 || n != 480 && len(b) != 0 {
				t.Fatalf("tag %d, a block of %d bytes: %d bytes, %v", i, n, len(b), err)
			}
		}
		if b, err := Encode(Tag{}, whole[:n]); len(b) != 0 || err != api.ErrArg {
			t.Fatalf("no tag, a block of %d bytes: %d bytes, %v", n, len(b), err)
		}
	}
	for i, block := range [][]byte{nil, {}} {
		if b, err := Encode(plain, block); len(b) != 0 || err != api.ErrArg {
			t.Errorf("%d: no block: %d bytes, %v", i, len(b), err)
		}
	}
}

func TestE1SectorsOfOtherLengths(t *testing.T) {
	refused(t, nil, "bytes", 0)
	refused(t, []byte{}, "bytes", 0)
	b := append(form(plain, blockOf(1)), make([]byte, 1000)...)
	for n := range len(b) {
		if n != 512 {
			refused(t, b[:n], "bytes", n)
		}
	}
	taken(t, b[:512], plain, blockOf(1))
	refused(t, b[1:513], "all but the first of", 513)
	refused(t, slices.Concat([]byte{0}, b[:511]), "a byte ahead of", 511)
	refused(t, slices.Concat(b[:512], b[:512]), "bytes", 1024)
	refused(t, bytes.Repeat([]byte{0xFF}, 512), "bytes 255", 512)
	refused(t, slices.Concat(make([]byte, 32), blockOf(1)), "no tag, a block of", 480)
}

func TestE1EachByteOfTheTagChanged(t *testing.T) {
	tags := []Tag{
		plain,
		{Epoch: 1, Start: 1, Seq: 1, Count: 1},
		{Epoch: math.MaxUint32, Start: MaxSeq, Seq: MaxSeq, Floor: MaxSeq - 1, Index: 71, Count: 72, ID: 3839},
		{Epoch: 258, Start: 3, Seq: 1 << 47, Floor: 513, Index: 2, Count: 3, ID: 257},
	}
	for _, x := range tags {
		whole := form(x, blockOf(9))
		for at := range 32 {
			for by := 1; by < 256; by++ {
				b := slices.Clone(whole)
				b[at] ^= byte(by)
				y, ok := parsed(b)
				if ok && (at < 4 || at >= 30 || y == x) {
					t.Fatalf("byte %d by %d: the test's own rule takes it", at, by)
				}
				if ok {
					taken(t, b, y, blockOf(9))
				} else {
					refused(t, b, "byte changed", at)
				}
			}
		}
		taken(t, whole, x, blockOf(9))
	}
}

func TestE1OtherWordsAndNoughts(t *testing.T) {
	for i, w := range []string{"hrrw", "WRRH", "HRRV", "HARR", "HRR\x00", "\x00\x00\x00\x00", "RRHW", " HRR", "HRRw"} {
		b := form(plain, blockOf(3))
		copy(b, w)
		refused(t, b, "word", i)
	}
	for i, n := range []string{"\x01\x00", "\x00\x01", "\xFF\xFF", "\x80\x00", "\x00\x80", "00"} {
		b := form(plain, blockOf(3))
		copy(b[30:], n)
		refused(t, b, "noughts", i)
	}
}

func TestE1EachByteOfTheBlockChanged(t *testing.T) {
	b := form(plain, blockOf(4))
	for at := 32; at < 512; at++ {
		for _, by := range []byte{1, 128, 255} {
			b[at] ^= by
			taken(t, b, plain, slices.Clone(b[32:]))
			b[at] ^= by
		}
	}
	taken(t, b, plain, blockOf(4))
}

func TestE1BlocksThatLookLikeOtherThings(t *testing.T) {
	other := plain
	other.ID++
	for i, block := range [][]byte{make([]byte, 480), bytes.Repeat([]byte{0xFF}, 480), bytes.Repeat([]byte("HRRW"), 120), form(other, make([]byte, 448))} {
		b, err := Encode(plain, block)
		if err != api.OK || !bytes.Equal(b, form(plain, block)) {
			t.Fatalf("block %d: %v, %d bytes", i, err, len(b))
		}
		taken(t, b, plain, block)
	}
}

func TestE1WhatIsHandedInStays(t *testing.T) {
	whole := bytes.Repeat([]byte{0xA5}, 2000)
	copy(whole[32:], blockOf(6))
	copy(whole, form(plain, nil))
	was := slices.Clone(whole)
	for _, n := range []int{0, 479, 480, 481, 2000 - 32} {
		Encode(plain, whole[32:32+n])
		Encode(Tag{}, whole[32:32+n])
		if !bytes.Equal(whole, was) {
			t.Fatalf("Encode of %d bytes changed them", n)
		}
	}
	for _, n := range []int{0, 16, 511, 512, 513, 2000} {
		Decode(whole[:n])
		Decode(whole[1 : 1+min(n, 1999)])
		if !bytes.Equal(whole, was) {
			t.Fatalf("Decode of %d bytes changed them", n)
		}
	}
}

func TestE1WhatIsAnsweredIsTheCallers(t *testing.T) {
	block := append(blockOf(6), 1, 2, 3)[:480]
	want := form(plain, block)
	first, _ := Encode(plain, block)
	second, _ := Encode(plain, block)
	clear(block)
	if !bytes.Equal(first, want) {
		t.Fatal("a sector hangs on the block that was handed in")
	}
	_ = append(first, 9, 9, 9)
	clear(first)
	if !bytes.Equal(second, want) {
		t.Fatal("two sectors share their bytes")
	}
	x, c, _ := Decode(second)
	y, d, _ := Decode(second)
	_ = append(c, 7, 7, 7)
	clear(c)
	if !bytes.Equal(second, want) {
		t.Fatal("a block shares its bytes with the sector")
	}
	clear(second)
	if x != plain || y != plain || !bytes.Equal(d, want[32:]) {
		t.Fatal("what was answered hangs on the sector, or on another answer")
	}
	taken(t, want, plain, want[32:])
}

func TestE1SaysTheSameAgain(t *testing.T) {
	for range 3 {
		judged(t, plain, true)
		judged(t, Tag{}, false)
		refused(t, make([]byte, 512), "noughts", 512)
	}
}
