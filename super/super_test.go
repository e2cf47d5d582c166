package super

import (
	"bytes"
	"encoding/binary"
	"hash/crc32"
	"math"
	"math/big"
	"slices"
	"testing"

	"harrow/api"
)

func geometry(blocks, sectors int) api.Geometry {
	return api.Geometry{Blocks: blocks, Sectors: sectors}
}

// form is a superblock of any two numbers, its sum fitting; made without the layers below.
func form(blocks, sectors uint32) []byte {
	b := make([]byte, 512)
	copy(b, "HARROW 1")
	binary.LittleEndian.PutUint32(b[8:], blocks)
	binary.LittleEndian.PutUint32(b[12:], sectors)
	return summed(b)
}

// summed gives a block the sum that fits.
func summed(b []byte) []byte {
	n := len(b) - 4
	binary.LittleEndian.PutUint32(b[n:], crc32.ChecksumIEEE(b[:n]))
	return b
}

// right is the rule, reckoned with numbers that can't wrap round.
func right(g api.Geometry) bool {
	twice := new(big.Int).Mul(big.NewInt(2), big.NewInt(int64(g.Sectors)))
	least := new(big.Int).Mul(big.NewInt(5), big.NewInt(int64(g.Blocks)))
	least.Add(least, big.NewInt(240))
	return g.Blocks >= 4 && g.Blocks <= 3840 && g.Sectors <= 19999 && twice.Cmp(least) >= 0
}

// judged asks all three calls for a geometry.
func judged(t *testing.T, g api.Geometry, ok bool) {
	t.Helper()
	want := api.ErrArg
	if ok {
		want = api.OK
	}
	if got := Right(g); got != want {
		t.Fatalf("Right(%v): %v, want %v", g, got, want)
	}
	b := Encode(g)
	if !ok {
		if len(b) != 0 {
			t.Fatalf("Encode(%v): %d bytes, want none", g, len(b))
		}
		return
	}
	if !bytes.Equal(b, form(uint32(g.Blocks), uint32(g.Sectors))) {
		t.Fatalf("Encode(%v): %d bytes, %q", g, len(b), b)
	}
	if got, err := Decode(b); got != g || err != api.OK {
		t.Fatalf("Decode of %v: %v, %v", g, got, err)
	}
}

// refused asks that bytes say nothing.
func refused(t *testing.T, b []byte, what string, n int) {
	t.Helper()
	if g, err := Decode(b); g != (api.Geometry{}) || err != api.ErrForm {
		t.Fatalf("Decode, %s %d: %v, %v", what, n, g, err)
	}
}

func TestD1ExamplesOfTheChapter(t *testing.T) {
	if got := Right(geometry(4, 130)); got != api.OK {
		t.Errorf("of 4, 130: %v", got)
	}
	if got := Right(geometry(4, 129)); got != api.ErrArg {
		t.Errorf("of 4, 129: %v", got)
	}
}

func TestD1Edges(t *testing.T) {
	for _, x := range []struct {
		blocks, sectors int
		ok              bool
	}{
		{3, 127, false}, {3, 128, false}, {3, 130, false}, {3, 19999, false},
		{4, 0, false}, {4, 129, false}, {4, 130, true}, {4, 131, true},
		{4, 19998, true}, {4, 19999, true}, {4, 20000, false}, {4, 20001, false},
		{5, 132, false}, {5, 133, true}, {6, 134, false}, {6, 135, true}, {7, 137, false}, {7, 138, true},
		{3839, 9717, false}, {3839, 9718, true},
		{3840, 9719, false}, {3840, 9720, true}, {3840, 19999, true}, {3840, 20000, false},
		{3841, 9722, false}, {3841, 9723, false}, {3841, 19999, false},
		{0, 0, false}, {0, 120, false}, {0, 19999, false}, {1, 19999, false}, {2, 19999, false},
	} {
		judged(t, geometry(x.blocks, x.sectors), x.ok)
	}
}

func TestD1BelowNoughtAndVeryLarge(t *testing.T) {
	far := []int{
		math.MinInt, math.MinInt + 1, math.MinInt + 130, math.MinInt + 9720, math.MinInt + 10000, math.MinInt / 2, math.MinInt/2 + 130, math.MinInt / 5, math.MinInt/5 - 1,
		math.MinInt32, -1 << 32, -19999, -3840, -130, -48, -4, -1,
		20000, 1 << 16, math.MaxInt32, 1 << 32, 1<<32 + 4, 1<<32 + 130, math.MaxInt / 5, math.MaxInt/5 + 1, math.MaxInt / 2, math.MaxInt/2 + 1, math.MaxInt/2 + 131, math.MaxInt - 1, math.MaxInt,
	}
	near := []int{0, 4, 130, 3840, 9720, 19999}
	for _, n := range far {
		for _, m := range append(far, near...) {
			judged(t, geometry(n, m), false)
			judged(t, geometry(m, n), false)
		}
	}
}

func TestD1EachSizeAgainstTheRule(t *testing.T) {
	for blocks := -3; blocks <= 3845; blocks++ {
		edge := (5*blocks + 240) / 2
		for _, sectors := range []int{-edge, 0, edge - 2, edge - 1, edge, edge + 1, edge + 2, 9720, 19998, 19999, 20000} {
			g := geometry(blocks, sectors)
			if got := Right(g) == api.OK; got != right(g) {
				t.Fatalf("Right(%v): %v", g, got)
			}
		}
	}
	for _, blocks := range []int{3, 4, 5, 100, 3840, 3841} {
		for sectors := -300; sectors <= 20300; sectors++ {
			g := geometry(blocks, sectors)
			if got := Right(g) == api.OK; got != right(g) {
				t.Fatalf("Right(%v): %v", g, got)
			}
		}
	}
}

func TestD1SaysTheSameAgain(t *testing.T) {
	for range 3 {
		if Right(geometry(4, 129)) != api.ErrArg || Right(geometry(4, 130)) != api.OK || Right(geometry(-1, 130)) != api.ErrArg {
			t.Fatal("another answer than ahead")
		}
	}
}

func TestD2BytesOfOne(t *testing.T) {
	b := Encode(geometry(0x0102, 0x0403))
	if len(b) != 512 {
		t.Fatalf("%d bytes", len(b))
	}
	if head := string(b[:16]); head != "HARROW 1\x02\x01\x00\x00\x03\x04\x00\x00" {
		t.Errorf("%q", head)
	}
	for i := 16; i < 508; i++ {
		if b[i] != 0 {
			t.Errorf("byte %d: %d", i, b[i])
		}
	}
	sum := crc32.ChecksumIEEE(b[:508])
	if want := []byte{byte(sum), byte(sum >> 8), byte(sum >> 16), byte(sum >> 24)}; !bytes.Equal(b[508:], want) {
		t.Errorf("sum %x, want %x", b[508:], want)
	}
}

func TestD2ThereAndBack(t *testing.T) {
	for blocks := 4; blocks <= 3840; blocks += 59 {
		least := (5*blocks + 241) / 2
		for _, sectors := range []int{least, least + 1, (least + 19999) / 2, 19998, 19999} {
			judged(t, geometry(blocks, sectors), true)
		}
	}
}

func TestD2EachByteChanged(t *testing.T) {
	for _, g := range []api.Geometry{{Blocks: 4, Sectors: 130}, {Blocks: 3840, Sectors: 9720}, {Blocks: 1285, Sectors: 19999}} {
		b := Encode(g)
		for i := range b {
			was := b[i]
			for by := 1; by < 256; by++ {
				b[i] = was ^ byte(by)
				refused(t, b, "byte changed", i)
			}
			b[i] = was
		}
		if got, err := Decode(b); got != g || err != api.OK {
			t.Fatalf("all turned back: %v, %v", got, err)
		}
	}
}

func TestD2ChangedWithASumThatFits(t *testing.T) {
	whole := form(100, 5000)
	for i := 16; i < 508; i++ { // the noughts
		b := slices.Clone(whole)
		b[i] = 1
		refused(t, summed(b), "no nought at", i)
	}
	for i := range 8 { // the word
		for _, by := range []byte{1, 2, 3, 32, 255} {
			b := slices.Clone(whole)
			b[i] ^= by
			refused(t, summed(b), "another word at", i)
		}
	}
	for i, x := range [][2]uint32{
		{0, 0}, {3, 19999}, {4, 129}, {4, 20000}, {3840, 9719}, {3841, 19999}, {0, 130}, {4, 0}, {130, 4},
		{1 << 16, 19999}, {4 | 1<<24, 130}, {4 | 1<<31, 130}, {4, 130 | 1<<16}, {4, 130 | 1<<31},
		{math.MaxUint32, 130}, {4, math.MaxUint32}, {math.MaxUint32, math.MaxUint32}, {math.MaxInt32, math.MaxInt32}, {4, 1<<31 + 130},
	} {
		refused(t, form(x[0], x[1]), "not right", i)
	}
	if g, err := Decode(form(100, 5000)); g != geometry(100, 5000) || err != api.OK {
		t.Errorf("unchanged: %v, %v", g, err)
	}
}

func TestD2OtherSums(t *testing.T) {
	b := Encode(geometry(4, 130))
	turned := slices.Clone(b)
	slices.Reverse(turned[508:])
	refused(t, turned, "the sum's highest byte first", 0)
	none := slices.Clone(b)
	copy(none[508:], "\x00\x00\x00\x00")
	refused(t, none, "a sum of", 0)
	all := slices.Clone(b)
	binary.LittleEndian.PutUint32(all[508:], crc32.ChecksumIEEE(b))
	refused(t, all, "a sum of all bytes", 512)
}

func TestD2OtherLengths(t *testing.T) {
	refused(t, nil, "bytes", 0)
	refused(t, []byte{}, "bytes", 0)
	b := Encode(geometry(4, 130))
	for n := range 512 {
		refused(t, b[:n], "bytes", n)
		if n >= 20 {
			refused(t, summed(slices.Clone(b[:n])), "bytes with a sum", n)
		}
	}
	for _, n := range []int{513, 516, 1024, 4096} {
		refused(t, append(slices.Clone(b), make([]byte, n-512)...), "bytes", n)
		refused(t, summed(append(slices.Clone(b[:508]), make([]byte, n-508)...)), "bytes with a sum", n)
	}
	refused(t, append(slices.Clone(b), b...), "bytes", 1024)
	refused(t, b[1:], "all but the first of", 512)
	refused(t, make([]byte, 512), "noughts", 512)
	refused(t, bytes.Repeat([]byte{0xFF}, 512), "bytes 255", 512)
	refused(t, summed(make([]byte, 512)), "noughts with a sum", 512)
}

func TestD2BytesStayWhoseTheyAre(t *testing.T) {
	g := geometry(4, 130)
	whole := make([]byte, 1024)
	copy(whole, Encode(g))
	was := slices.Clone(whole)
	for _, n := range []int{0, 16, 511, 512, 513, 1024} {
		Decode(whole[:n])
		if !bytes.Equal(whole, was) {
			t.Fatalf("Decode of %d bytes changed what it was handed", n)
		}
	}
	first, second := Encode(g), Encode(g)
	first[0], first[511] = 0, first[511]+1
	_ = append(first[:16], 9)
	if !bytes.Equal(second, was[:512]) || !bytes.Equal(Encode(g), was[:512]) {
		t.Fatal("an answer shares its bytes with another one")
	}
	got, err := Decode(second)
	clear(second)
	if got != g || err != api.OK {
		t.Fatalf("%v, %v", got, err)
	}
}
