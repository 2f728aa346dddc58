package frame

import (
	"bytes"
	"hash/crc32"
	"math"
	"slices"
	"testing"

	"pigeonhole/api"
)

// mixed are n bytes that show no order; marks and veils are among them often.
func mixed(n int, seed uint32) []byte {
	b := make([]byte, n)
	x := seed
	for i := range b {
		x = x*1664525 + 1013904223
		b[i] = byte(x >> 24)
		if b[i] < 0x40 {
			b[i] = 0x50 + b[i]%2
		}
	}
	return b
}

// plain is what stands in a frame, not veiled yet, with the length and the sum that are told.
func plain(kind byte, n, sum uint32, payload []byte) []byte {
	b := []byte{kind}
	for _, v := range []uint32{n, sum} {
		b = append(b, byte(v>>24), byte(v>>16), byte(v>>8), byte(v))
	}
	return append(b, payload...)
}

// rightSum is the sum that a frame has to have, by the chapter's words.
func rightSum(kind byte, payload []byte) uint32 {
	all := plain(kind, uint32(len(payload)), 0, nil)[:5]
	return crc32.ChecksumIEEE(append(all, payload...))
}

// veiled are bytes with each mark and veil put in two.
func veiled(b []byte) []byte {
	b = bytes.ReplaceAll(b, []byte{0x51}, []byte{0x51, 1})
	return bytes.ReplaceAll(b, []byte{0x50}, []byte{0x51, 0})
}

// made is a frame by the chapter's words.
func made(kind byte, payload []byte) []byte {
	return append([]byte{0x50}, veiled(plain(kind, uint32(len(payload)), rightSum(kind, payload), payload))...)
}

// payloads are some of many kinds: short ones, such whose length is veiled, and the longest.
func payloads() [][]byte {
	l := [][]byte{nil, {0}, {0x50}, {0x51}, {0x51, 0x50, 0, 1}, []byte("hello"), make([]byte, 0x50), make([]byte, 0x51)}
	for _, n := range []int{300, 0x5051, api.MaxPayload - 1, api.MaxPayload} {
		l = append(l, mixed(n, uint32(n)))
	}
	return append(l, bytes.Repeat([]byte{0x51}, api.MaxPayload))
}

// P3.1: marks and veils are put in two, all others stay.
func TestVeil(t *testing.T) {
	for _, c := range []struct{ b, want []byte }{
		{nil, nil},
		{[]byte{}, nil},
		{[]byte{0x50, 0x51, 0x52}, []byte{0x51, 0, 0x51, 1, 0x52}},
		{[]byte{0, 1, 0x4f, 0xff}, []byte{0, 1, 0x4f, 0xff}},
		{[]byte{0x51, 0, 0x51, 1}, []byte{0x51, 1, 0, 0x51, 1, 1}},
		{[]byte("PPQQ"), []byte{0x51, 0, 0x51, 0, 0x51, 1, 0x51, 1}},
	} {
		if v := Veil(c.b); !bytes.Equal(v, c.want) {
			t.Errorf("Veil(%x): %x, not %x", c.b, v, c.want)
		}
	}
	for v := range 256 {
		b := []byte{7, byte(v), 8}
		if x := Veil(b); !bytes.Equal(x, veiled(b)) || bytes.IndexByte(x, 0x50) >= 0 {
			t.Errorf("Veil(%x): %x", b, x)
		}
	}
}

// P3.1: a frame byte by byte, of each kind and of payloads of all lengths that count.
func TestWrap(t *testing.T) {
	if b, e := Wrap(1, nil); e != api.OK || !bytes.HasPrefix(b, []byte{0x50, 1, 0, 0, 0, 0}) || !bytes.Equal(b, made(1, nil)) {
		t.Errorf("%x %d", b, e)
	}
	for kind := range 256 {
		for _, p := range [][]byte{nil, []byte("PQ"), {byte(kind)}} {
			if b, e := Wrap(kind, p); e != api.OK || !bytes.Equal(b, made(byte(kind), p)) {
				t.Errorf("Wrap(%d, %x): %x %d", kind, p, b, e)
			}
		}
	}
	for _, p := range payloads() {
		b, e := Wrap(9, p)
		if e != api.OK || !bytes.Equal(b, made(9, p)) {
			t.Errorf("%d bytes: %d", len(p), e)
		}
		if bytes.LastIndexByte(b, 0x50) != 0 {
			t.Errorf("%d bytes: the mark stands behind the beginning", len(p))
		}
	}
}

// P3.1: kinds outside ahead of payloads that are too long; beside an error there is no frame.
func TestWrapRefuses(t *testing.T) {
	long := make([]byte, api.MaxPayload+1)
	for _, c := range []struct {
		kind int
		p    []byte
		e    api.Errno
	}{
		{-1, nil, api.ErrArg},
		{256, nil, api.ErrArg},
		{math.MinInt, nil, api.ErrArg},
		{math.MaxInt, nil, api.ErrArg},
		{1 << 32, nil, api.ErrArg},
		{256, long, api.ErrArg},
		{-1, long, api.ErrArg},
		{0, long, api.ErrLarge},
		{255, append(long, long...), api.ErrLarge},
	} {
		if b, e := Wrap(c.kind, c.p); e != c.e || len(b) != 0 {
			t.Errorf("Wrap(%d, %d bytes): %d bytes, %d", c.kind, len(c.p), len(b), e)
		}
	}
}

// P3.5: what Veil and Wrap are handed stays and isn't kept; what lies behind its length is not touched; what is answered is new.
func TestWrapMemory(t *testing.T) {
	whole := []byte("aPbQc")
	in := whole[:3]
	v, w := Veil(in), made(1, in)
	b, _ := Wrap(1, in)
	other, _ := Wrap(1, in)
	if string(whole) != "aPbQc" || !bytes.Equal(b, w) {
		t.Errorf("%q %x", whole, b)
	}
	in[0] = 'x'
	if !bytes.Equal(v, []byte{'a', 0x51, 0, 'b'}) || !bytes.Equal(b, w) {
		t.Error("what was handed in was kept")
	}
	in[0] = 'a'
	clear(b)
	_ = append(b[:0], slices.Repeat([]byte{9}, len(b))...)
	clear(v)
	if string(whole) != "aPbQc" || !bytes.Equal(other, w) {
		t.Error("what was answered was somebody else's too")
	}
}
