package octets

import (
	"bytes"
	"encoding/binary"
	"math"
	"slices"
	"testing"
)

const deep = 0x8877665544332211 // each byte of it is another one

var numbers = []uint64{0, 1, 127, 128, 255, 256, 258, 0xFF00, 0xFFFF, 0x10000, 0xFFFFFFFF, 1 << 32, deep, 1 << 63, math.MaxUint64 - 1, math.MaxUint64}

func some(n int) []byte {
	b := make([]byte, n)
	for i := range b {
		b[i] = byte(i*7 + i/256 + 1)
	}
	return b
}

// as is a size as the chapter has it: at least 0, at most top.
func as(n, top int) int {
	if n < 0 {
		return 0
	}
	if n > top {
		return top
	}
	return n
}

// told is n in size bytes.
func told(size int, n uint64) []byte {
	b := binary.LittleEndian.AppendUint64(nil, n)
	return b[:as(size, 8)]
}

func same(t *testing.T, got, want []byte) {
	t.Helper()
	if !bytes.Equal(got, want) {
		t.Fatalf("%d bytes %x.., want %d: %x..", len(got), got[:min(len(got), 20)], len(want), want[:min(len(want), 20)])
	}
}

// stands asks where a reader stands.
func stands(t *testing.T, r *Reader, left int, fine bool) {
	t.Helper()
	for range 2 { // to ask changes nothing
		if r.Left() != left || r.Fine() != fine {
			t.Fatalf("%d left, fine %v, want %d, %v", r.Left(), r.Fine(), left, fine)
		}
	}
}

func number(t *testing.T, r *Reader, size int, want uint64) {
	t.Helper()
	if got := r.Number(size); got != want {
		t.Fatalf("Number(%d): %x, want %x", size, got, want)
	}
}

// spent asks a reader that isn't fine for all kinds of things.
func spent(t *testing.T, r *Reader) {
	t.Helper()
	stands(t, r, 0, false)
	for _, n := range []int{0, 1, -1, 8, 9, 5000, math.MaxInt, math.MinInt} {
		number(t, r, n, 0)
		stands(t, r, 0, false)
		same(t, r.Bytes(n), nil)
		stands(t, r, 0, false)
	}
}

func TestC1ExampleOfTheChapter(t *testing.T) {
	same(t, Put(nil, 2, 258), []byte{2, 1})
}

func TestC1PutEachSize(t *testing.T) {
	for _, x := range []struct {
		size int
		want string
	}{
		{math.MinInt, ""}, {-8, ""}, {-1, ""}, {0, ""},
		{1, "\x11"}, {2, "\x11\x22"}, {3, "\x11\x22\x33"}, {4, "\x11\x22\x33\x44"}, {5, "\x11\x22\x33\x44\x55"},
		{6, "\x11\x22\x33\x44\x55\x66"}, {7, "\x11\x22\x33\x44\x55\x66\x77"}, {8, "\x11\x22\x33\x44\x55\x66\x77\x88"},
		{9, "\x11\x22\x33\x44\x55\x66\x77\x88"}, {64, "\x11\x22\x33\x44\x55\x66\x77\x88"}, {math.MaxInt, "\x11\x22\x33\x44\x55\x66\x77\x88"},
	} {
		same(t, Put(nil, x.size, deep), []byte(x.want))
		same(t, Put([]byte{}, x.size, deep), []byte(x.want))
		same(t, Put([]byte("ab"), x.size, deep), []byte("ab"+x.want))
	}
}

func TestC1PutNumbers(t *testing.T) {
	for _, n := range numbers {
		for size := -2; size <= 11; size++ {
			for _, long := range []int{0, 1, 7, 8, 9, 512, 5000} {
				b := some(long)
				same(t, Put(b, size, n), slices.Concat(b, told(size, n)))
			}
		}
	}
}

func TestC1PutIsNewBytes(t *testing.T) {
	for _, size := range []int{-1, 0, 1, 8, 9} {
		whole := some(64)
		was := slices.Clone(whole)
		b := whole[:5] // there is room behind it, that isn't its
		first := Put(b, size, deep)
		second := Put(b, size, ^uint64(deep))
		same(t, whole, was)
		same(t, first, slices.Concat(was[:5], told(size, deep)))
		same(t, second, slices.Concat(was[:5], told(size, ^uint64(deep))))
		b[0] = 99
		same(t, first[:5], was[:5])
		second[1], second[len(second)-1] = 98, 97
		same(t, whole[1:], was[1:])
		same(t, first, slices.Concat(was[:5], told(size, deep)))
	}
}

func TestC1Field(t *testing.T) {
	for n, want := range map[int]string{
		math.MinInt: "", -4096: "", -1: "", 0: "",
		1: "a", 2: "ab", 3: "abc", 4: "abc\x00", 6: "abc\x00\x00\x00",
	} {
		same(t, Field([]byte("abc"), n), []byte(want))
		same(t, Field(nil, n), make([]byte, len(want)))
		same(t, Field([]byte{}, n), make([]byte, len(want)))
	}
}

func TestC1FieldLengths(t *testing.T) {
	for _, long := range []int{0, 1, 479, 480, 4095, 4096, 4097, 6000} {
		b := some(long)
		for _, n := range []int{0, 1, 480, 4095, 4096, 4097, 6000, 1 << 40, math.MaxInt} {
			want := slices.Concat(b, make([]byte, 8192))[:as(n, 4096)]
			same(t, Field(b, n), want)
		}
	}
}

func TestC1FieldIsNewBytes(t *testing.T) {
	for _, n := range []int{0, 3, 5, 8, 4097} {
		whole := some(64)
		was := slices.Clone(whole)
		b := whole[:5] // what is behind it must not be taken for its own
		f := Field(b, n)
		want := slices.Concat(was[:5], make([]byte, 4096))[:as(n, 4096)]
		same(t, f, want)
		same(t, whole, was)
		clear(whole)
		same(t, f, want)
		for i := range f {
			f[i] = 99
		}
		same(t, whole, make([]byte, 64))
		same(t, Field(was[:5], n), want)
	}
}

func TestC2ReadsOneBehindTheOther(t *testing.T) {
	r := Read([]byte{1, 2, 3, 4, 5, 6, 7, 8, 9, 10, 11, 12, 13})
	stands(t, r, 13, true)
	number(t, r, 1, 1)
	stands(t, r, 12, true)
	number(t, r, 2, 0x0302)
	stands(t, r, 10, true)
	same(t, r.Bytes(3), []byte{4, 5, 6})
	stands(t, r, 7, true)
	number(t, r, 4, 0x0A090807)
	stands(t, r, 3, true)
	same(t, r.Bytes(1), []byte{11})
	number(t, r, 2, 0x0D0C)
	stands(t, r, 0, true)
}

func TestC2NumberSizes(t *testing.T) {
	b := slices.Concat(told(8, deep), []byte{0x99, 0xAA})
	for _, x := range []struct {
		size, takes int
		want        uint64
	}{
		{math.MinInt, 0, 0}, {-1, 0, 0}, {0, 0, 0}, {1, 1, 0x11}, {2, 2, 0x2211}, {3, 3, 0x332211}, {4, 4, 0x44332211}, {5, 5, 0x5544332211},
		{6, 6, 0x665544332211}, {7, 7, 0x77665544332211}, {8, 8, deep}, {9, 8, deep}, {10, 8, deep}, {11, 8, deep}, {math.MaxInt, 8, deep},
	} {
		r := Read(b)
		number(t, r, x.size, x.want)
		stands(t, r, 10-x.takes, true)
		same(t, r.Bytes(10-x.takes), b[x.takes:])
	}
}

func TestC2BytesLengths(t *testing.T) {
	b := some(6000)
	for _, n := range []int{math.MinInt, -4096, -1, 0, 1, 8, 9, 480, 4095, 4096, 4097, 5999, 6000} {
		r := Read(b)
		takes := as(n, 6000)
		same(t, r.Bytes(n), b[:takes])
		stands(t, r, 6000-takes, true)
		same(t, r.Bytes(6000-takes), b[takes:])
		stands(t, r, 0, true)
	}
}

func TestC2NothingOfNothing(t *testing.T) {
	for _, b := range [][]byte{nil, {}} {
		r := Read(b)
		stands(t, r, 0, true)
		for _, n := range []int{0, -1, math.MinInt} {
			number(t, r, n, 0)
			same(t, r.Bytes(n), nil)
			stands(t, r, 0, true)
		}
		number(t, r, 1, 0)
		spent(t, r)
		r = Read(b)
		same(t, r.Bytes(1), nil)
		spent(t, r)
	}
}

func TestC2MoreThanIsLeft(t *testing.T) {
	for long := range 12 {
		for ahead := range long + 1 {
			left := long - ahead
			for _, n := range []int{left + 1, left + 2, 8, 9, 4096, 4097, math.MaxInt} {
				if n > left {
					r := Read(some(long))
					r.Bytes(ahead)
					same(t, r.Bytes(n), nil)
					spent(t, r)
				}
				if as(n, 8) > left {
					r := Read(some(long))
					r.Bytes(ahead)
					number(t, r, n, 0)
					spent(t, r)
				}
			}
		}
	}
}

func TestC2ReadsWhatWasThen(t *testing.T) {
	whole := some(20)
	was := slices.Clone(whole)
	b := whole[2:14]
	r := Read(b)
	clear(whole)
	number(t, r, 4, uint64(binary.LittleEndian.Uint32(was[2:])))
	copy(whole, bytes.Repeat([]byte{0xFF}, 20))
	same(t, r.Bytes(8), was[6:14])
	stands(t, r, 0, true) // what lies behind b isn't its
	same(t, whole, bytes.Repeat([]byte{0xFF}, 20))
	number(t, r, 1, 0)
	spent(t, r)
}

func TestC2BytesAreACopy(t *testing.T) {
	whole := some(12)
	was := slices.Clone(whole)
	r := Read(whole)
	first := r.Bytes(4)
	for i := range first {
		first[i] = 99
	}
	_ = append(first, 98, 97, 96)
	second := r.Bytes(4)
	same(t, second, was[4:8])
	_ = append(second[:0], 95, 94, 93, 92, 91)
	same(t, first, []byte{99, 99, 99, 99})
	same(t, whole, was)
	number(t, r, 4, uint64(binary.LittleEndian.Uint32(was[8:])))
	for range 2 {
		_ = append(r.Bytes(0), 90)
	}
	same(t, whole, was)
}

// TestC2WhatIsTakenOffIsApart: no answer shows it from without, as each byte is taken off once.
func TestC2WhatIsTakenOffIsApart(t *testing.T) {
	r := Read(some(9))
	kept := r.rest
	first := r.Bytes(4)
	clear(first)
	same(t, kept, some(9))
	_ = append(r.next(2), 99, 98)
	same(t, kept, some(9))
	same(t, r.Bytes(3), some(9)[6:])
}

func TestC2ReadersAreOnTheirOwn(t *testing.T) {
	b := some(9)
	one, two := Read(b), Read(b)
	same(t, one.Bytes(3), b[:3])
	stands(t, two, 9, true)
	number(t, one, 7, 0)
	spent(t, one)
	same(t, two.Bytes(9), b)
	stands(t, two, 0, true)
	same(t, Read(b).Bytes(9), b)
}

func TestC2WhatWasPutIsRead(t *testing.T) {
	for size := -2; size <= 11; size++ {
		var b []byte
		for _, n := range numbers {
			b = Put(b, size, n)
			b = slices.Concat(b, Field([]byte("name"), 6))
		}
		r := Read(b)
		for _, n := range numbers {
			want := binary.LittleEndian.Uint64(slices.Concat(told(size, n), make([]byte, 8)))
			number(t, r, size, want)
			same(t, r.Bytes(6), []byte("name\x00\x00"))
		}
		stands(t, r, 0, true)
	}
}

func TestC2WordsOfEachWidth(t *testing.T) {
	b := told(8, deep)
	for n := range 9 {
		want := uint64(deep) & (1<<(8*n) - 1)
		if taken[uint64](b[:n]) != want {
			t.Errorf("%d bytes of 64 bits: %x", n, taken[uint64](b[:n]))
		}
		if taken[uint32](b[:n]) != uint32(want) || taken[uint16](b[:n]) != uint16(want) || taken[uint8](b[:n]) != uint8(want) {
			t.Errorf("%d bytes: %x, %x, %x", n, taken[uint32](b[:n]), taken[uint16](b[:n]), taken[uint8](b[:n]))
		}
	}
}

// model is a reader that goes over bytes that nobody takes off.
type model struct {
	b   []byte
	at  int
	bad bool
}

func (m *model) bytes(n int) []byte {
	n = as(n, math.MaxInt)
	if m.bad || n > len(m.b)-m.at {
		m.at, m.bad = len(m.b), true
		return nil
	}
	m.at += n
	return m.b[m.at-n : m.at]
}

func (m *model) number(size int) uint64 {
	n := uint64(0)
	for _, c := range slices.Backward(m.bytes(as(size, 8))) {
		n = n*256 + uint64(c)
	}
	return n
}

// TestC2AgainstModel plays every list of four reads on readers of 0 to 18 bytes.
func TestC2AgainstModel(t *testing.T) {
	sizes := []int{-1, 0, 1, 2, 4, 7, 8, 9}
	const long = 4
	lists := 1
	for range long {
		lists *= 2 * len(sizes)
	}
	for n := range 19 {
		b := some(n)
		for list := range lists {
			r, m := Read(b), &model{b: b}
			rest := list
			for range long {
				size := sizes[rest/2%len(sizes)]
				if rest%2 == 0 {
					number(t, r, size, m.number(size))
				} else {
					same(t, r.Bytes(size), m.bytes(size))
				}
				stands(t, r, len(m.b)-m.at, !m.bad)
				rest /= 2 * len(sizes)
			}
		}
	}
}
