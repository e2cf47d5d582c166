package crc

import (
	"bytes"
	"hash/crc32"
	"slices"
	"testing"
)

// powers are those of the chapter's polynomial.
var powers = []int{32, 26, 23, 22, 16, 12, 11, 10, 8, 7, 5, 4, 2, 1, 0}

// divided is the sum as the chapter tells it: a division bit by bit, each bit a coefficient.
func divided(b []byte) uint32 {
	var bits []bool
	for _, c := range b {
		for k := range 8 {
			bits = append(bits, c>>k&1 == 1)
		}
	}
	n := len(bits)
	bits = append(bits, make([]bool, 32)...)
	for i := range 32 {
		bits[i] = !bits[i]
	}
	for i := range n {
		if !bits[i] {
			continue
		}
		for _, p := range powers {
			bits[i+32-p] = !bits[i+32-p]
		}
	}
	sum := uint32(0)
	for k, bit := range bits[n:] {
		if !bit {
			sum |= 1 << k
		}
	}
	return sum
}

// bytesOf are four bytes of this sum: the division, backward.
func bytesOf(sum uint32) []byte {
	left := ^sum
	for range 32 {
		if left>>31 == 1 {
			left = (left^0xEDB88320)<<1 | 1
		} else {
			left <<= 1
		}
	}
	left = ^left
	return []byte{byte(left), byte(left >> 8), byte(left >> 16), byte(left >> 24)}
}

func some(n int) []byte {
	b := make([]byte, n)
	x := uint32(1)
	for i := range b {
		x = x*1664525 + 1013904223
		b[i] = byte(x >> 24)
	}
	return b
}

func sums(t *testing.T, b []byte, want uint32) {
	t.Helper()
	if got := Sum(b); got != want {
		t.Fatalf("Sum of %d bytes %x..: %08X, want %08X", len(b), b[:min(len(b), 8)], got, want)
	}
}

func TestB1ExampleOfTheChapter(t *testing.T) {
	sums(t, []byte("123456789"), 0xCBF43926)
}

func TestB1NoBytes(t *testing.T) {
	sums(t, nil, 0)
	sums(t, []byte{}, 0)
	for _, sum := range []uint32{0, 1, 0x80000000, 0xCBF43926, 0xFFFFFFFF} {
		if a, b := More(sum, nil), More(sum, []byte{}); a != sum || b != sum {
			t.Errorf("More(%08X) of no bytes: %08X, %08X", sum, a, b)
		}
	}
}

func TestB1KnownSums(t *testing.T) {
	for s, want := range map[string]uint32{
		"a":                0xE8B7BE43,
		"abc":              0x352441C2,
		"\x00":             0xD202EF8D,
		"\x00\x00\x00\x00": 0x2144DF1C,
		"\xff":             0xFF000000,
		"\xff\xff\xff\xff": 0xFFFFFFFF,
		"The quick brown fox jumps over the lazy dog": 0x414FA339,
	} {
		sums(t, []byte(s), want)
	}
}

func TestB1IsTheDivision(t *testing.T) {
	for c := range 256 {
		sums(t, []byte{byte(c)}, divided([]byte{byte(c)}))
		sums(t, []byte{7, byte(c), 7}, divided([]byte{7, byte(c), 7}))
	}
	all := some(600)
	for n := range len(all) + 1 {
		sums(t, all[:n], divided(all[:n]))
		sums(t, make([]byte, n), divided(make([]byte, n)))
		full := bytes.Repeat([]byte{0xFF}, n)
		sums(t, full, divided(full))
	}
}

func TestB1PairsOfBytes(t *testing.T) {
	for n := range 1 << 16 {
		b := []byte{byte(n), byte(n >> 8)}
		sums(t, b, crc32.ChecksumIEEE(b))
	}
}

func TestB1ManyBytes(t *testing.T) {
	for _, n := range []int{4096, 65537, 1<<20 + 3} {
		b := some(n)
		sums(t, b, crc32.ChecksumIEEE(b))
	}
}

func TestB1MoreGoesOn(t *testing.T) {
	for _, n := range []int{0, 1, 2, 3, 7, 33, 508} {
		b := some(n)
		for i := range n + 1 {
			if got := More(Sum(b[:i]), b[i:]); got != Sum(b) {
				t.Fatalf("%d bytes, parted at %d: %08X, want %08X", n, i, got, Sum(b))
			}
		}
		if got := More(0, b); got != Sum(b) {
			t.Fatalf("%d bytes from 0: %08X, want %08X", n, got, Sum(b))
		}
		sum := uint32(0)
		for i := range b {
			sum = More(sum, b[i:i+1])
		}
		if sum != Sum(b) {
			t.Fatalf("%d bytes one by one: %08X, want %08X", n, sum, Sum(b))
		}
	}
}

func TestB1MoreFromAnySum(t *testing.T) {
	from := []uint32{0, 1, 2, 15, 16, 0xFF, 0x7FFFFFFF, 0x80000000, 0xCBF43926, 0xDEBB20E3, 0xEDB88320, 0xFFFFFFFE, 0xFFFFFFFF}
	for x := uint32(1); len(from) < 500; {
		x = x*1664525 + 1013904223
		from = append(from, x)
	}
	for _, sum := range from {
		ahead := bytesOf(sum)
		if got := divided(ahead); got != sum {
			t.Fatalf("the test's own bytes of %08X have the sum %08X", sum, got)
		}
		sums(t, ahead, sum)
		for _, n := range []int{0, 1, 2, 5, 40} {
			b := some(n)
			want := divided(slices.Concat(ahead, b))
			if got := More(sum, b); got != want {
				t.Fatalf("More(%08X) of %d bytes: %08X, want %08X", sum, n, got, want)
			}
		}
	}
}

func TestB1AChangedByteChangesTheSum(t *testing.T) {
	b := some(64)
	want := Sum(b)
	for i := range b {
		for by := 1; by < 256; by++ {
			b[i] ^= byte(by)
			if Sum(b) == want {
				t.Fatalf("byte %d changed by %02X: the sum is still %08X", i, by, want)
			}
			b[i] ^= byte(by)
		}
	}
}

func TestB1OrderAndLengthCount(t *testing.T) {
	if Sum([]byte("ab")) == Sum([]byte("ba")) || Sum([]byte{0}) == Sum([]byte{0, 0}) || Sum([]byte{0}) == Sum(nil) {
		t.Fatal("two texts have one sum")
	}
}

func TestB1BytesStayAsTheyWere(t *testing.T) {
	whole := some(40)
	was := slices.Clone(whole)
	part := whole[10:20]
	first := Sum(part)
	second := More(5, part)
	if !slices.Equal(whole, was) {
		t.Fatal("bytes were changed")
	}
	sums(t, part, first)
	if got := More(5, part); got != second {
		t.Fatalf("More again: %08X, want %08X", got, second)
	}
	sums(t, slices.Clone(was[10:20]), first)
}
