package crc

import (
	"bytes"
	"hash/crc32"
	"math"
	"testing"
)

// slow is More by the chapter's words, bit by bit.
func slow(sum uint32, b []byte) uint32 {
	state := ^sum
	for _, v := range b {
		state ^= uint32(v)
		for range 8 {
			out := state & 1
			state >>= 1
			if out == 1 {
				state ^= 0xedb88320
			}
		}
	}
	return ^state
}

// mixed are n bytes that show no order.
func mixed(n int) []byte {
	b := make([]byte, n)
	x := uint32(1)
	for i := range b {
		x = x*1664525 + 1013904223
		b[i] = byte(x >> 24)
	}
	return b
}

// starts are sums to begin with, those at the edges among them.
var starts = []uint32{0, 1, 77, 1 << 31, 0xcbf43926, math.MaxUint32 - 1, math.MaxUint32}

// P2.1: sums that are known, those of the examples among them.
func TestOfKnown(t *testing.T) {
	for s, want := range map[string]uint32{
		"":                 0,
		"\x00":             0xd202ef8d,
		"\xff":             0xff000000,
		"a":                0xe8b7be43,
		"abc":              0x352441c2,
		"123456789":        0xcbf43926,
		"\x00\x00\x00\x00": 0x2144df1c,
		"\xff\xff\xff\xff": 0xffffffff,
		"The quick brown fox jumps over the lazy dog": 0x414fa339,
	} {
		if c := Of([]byte(s)); c != want {
			t.Errorf("Of(%q): %x, not %x", s, c, want)
		}
	}
	if Of(nil) != 0 || Of([]byte{}) != 0 {
		t.Error("Of nothing")
	}
}

// P2.1: each byte, alone and behind others.
func TestOfEachByte(t *testing.T) {
	for v := range 256 {
		for _, b := range [][]byte{{byte(v)}, {byte(v), 0}, {1, 2, 3, byte(v)}, {255, byte(v), 255}} {
			if c := Of(b); c != slow(0, b) || c != crc32.ChecksumIEEE(b) {
				t.Errorf("Of(%x): %x, not %x", b, c, slow(0, b))
			}
		}
	}
}

// P2.1: More of each start and length; More(0, b) is Of(b).
func TestMore(t *testing.T) {
	for _, sum := range starts {
		for n := range 40 {
			b := mixed(n)
			want := slow(sum, b)
			if c := More(sum, b); c != want || c != crc32.Update(sum, crc32.IEEETable, b) {
				t.Errorf("More(%x, %x): %x, not %x", sum, b, c, want)
			}
			if More(0, b) != Of(b) {
				t.Errorf("More(0, %x): %x, not %x", b, More(0, b), Of(b))
			}
		}
		if c := More(sum, nil); c != sum {
			t.Errorf("More(%x, nothing): %x", sum, c)
		}
	}
	if b := mixed(70001); Of(b) != crc32.ChecksumIEEE(b) {
		t.Errorf("many bytes: %x", Of(b))
	}
}

// P2.1: bytes cut anywhere have the sum of the whole.
func TestMoreInParts(t *testing.T) {
	b := mixed(60)
	want := Of(b)
	for i := range len(b) + 1 {
		for k := i; k <= len(b); k++ {
			if c := More(More(Of(b[:i]), b[i:k]), b[k:]); c != want {
				t.Errorf("cut at %d and %d: %x, not %x", i, k, c, want)
			}
		}
	}
}

// P2.1: Zeros is More of as many bytes 00.
func TestZerosIsMore(t *testing.T) {
	for _, sum := range starts {
		for n := range 600 {
			if c, want := Zeros(sum, n), More(sum, make([]byte, n)); c != want {
				t.Errorf("Zeros(%x, %d): %x, not %x", sum, n, c, want)
			}
		}
	}
	for _, n := range []int{65535, 65536, 65537, 1<<20 - 1, 1 << 20, 1000003} {
		if c, want := Zeros(77, n), crc32.Update(77, crc32.IEEETable, make([]byte, n)); c != want {
			t.Errorf("Zeros(77, %d): %x, not %x", n, c, want)
		}
	}
}

// P2.1: of n below 1 the sum stays.
func TestZerosNone(t *testing.T) {
	for _, sum := range starts {
		for _, n := range []int{0, -1, -2, -256, -1 << 32, math.MinInt, math.MinInt + 1} {
			if c := Zeros(sum, n); c != sum {
				t.Errorf("Zeros(%x, %d): %x", sum, n, c)
			}
		}
	}
}

// P2.1: however great n is. This test would not end, if the bytes were gone through one by one.
func TestZerosGreat(t *testing.T) {
	// The polynomial is a primitive one: behind 2^32 - 1 steps, or as many bytes, a state is again what it was.
	const round = 1<<32 - 1
	for _, sum := range starts {
		for _, n := range []int{0, 1, 2, 255, 4096} {
			for _, rounds := range []int{1, 2, 77, 1<<31 - 1} {
				if c, want := Zeros(sum, rounds*round+n), More(sum, make([]byte, n)); c != want {
					t.Errorf("Zeros(%x, %d): %x, not %x", sum, rounds*round+n, c, want)
				}
			}
		}
		for _, n := range []int{math.MaxInt, math.MaxInt - 1, 1 << 62, 1<<40 + 3} {
			if c, want := Zeros(sum, n), Zeros(Zeros(sum, n/2), n-n/2); c != want {
				t.Errorf("Zeros(%x, %d): %x, in two parts %x", sum, n, c, want)
			}
			if c, want := Zeros(sum, n), Zeros(sum, n%round); c != want {
				t.Errorf("Zeros(%x, %d): %x, without rounds %x", sum, n, c, want)
			}
		}
	}
}

// P2.1: all bits of all starts count, at each bit of n.
func TestZerosEachBit(t *testing.T) {
	for k := range 63 {
		n := 1 << k
		for bit := range 32 {
			sum := ^(uint32(1) << bit)
			// Turned bits go their way alone: what two sums differ by is what their zeros differ by, whatever the sums.
			alone := Zeros(sum, n) ^ Zeros(math.MaxUint32, n)
			if other := Zeros(77^1<<bit, n) ^ Zeros(77, n); alone != other || alone == 0 {
				t.Errorf("bit %d behind %d bytes: %x, %x", bit, n, alone, other)
			}
		}
	}
}

// P2.2: the right sum, and each that has one bit turned.
func TestSame(t *testing.T) {
	for _, b := range [][]byte{nil, {0}, {255}, []byte("a"), []byte("123456789"), mixed(1000)} {
		sum := crc32.ChecksumIEEE(b)
		if !Same(b, sum) {
			t.Errorf("not Same(%x, %x)", b, sum)
		}
		for bit := range 32 {
			if Same(b, sum^1<<bit) {
				t.Errorf("Same(%x, %x)", b, sum^1<<bit)
			}
		}
		if Same(b, ^sum) {
			t.Errorf("Same(%x, %x)", b, ^sum)
		}
	}
	if !Same(nil, 0) || Same(nil, 1) || Same([]byte("a"), 0) {
		t.Error("Same at 0")
	}
}

// P2.2: whichever bits of one byte are turned, the sum isn't that one any more.
func TestTurnedByte(t *testing.T) {
	for _, n := range []int{1, 2, 9, 33} {
		b := mixed(n)
		sum := Of(b)
		for i := range b {
			for turned := 1; turned < 256; turned++ {
				b[i] ^= byte(turned)
				if Of(b) == sum || Same(b, sum) {
					t.Errorf("%d bytes, %x turned at %d", n, turned, i)
				}
				b[i] ^= byte(turned)
			}
		}
	}
}

// P2.2: what is handed in stays; what lies behind a list's length is neither read nor written.
func TestHandedInStays(t *testing.T) {
	whole := []byte("123456789")
	b := whole[:4]
	sum := crc32.ChecksumIEEE([]byte("1234"))
	if Of(b) != sum || More(0, b) != sum || !Same(b, sum) {
		t.Error("what lies behind the length was read")
	}
	if !bytes.Equal(whole, []byte("123456789")) {
		t.Errorf("%q", whole)
	}
	b[0] = 'x'
	if Of([]byte("1234")) != sum || Same(b, sum) {
		t.Error("what was handed in was kept")
	}
}
