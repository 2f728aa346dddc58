package txlog

import (
	"bytes"
	"encoding/binary"
	"math"
	"testing"

	"pigeonhole/api"
	"pigeonhole/frame"
)

// items are texts as a transaction's.
func items(texts ...string) [][]byte {
	var l [][]byte
	for _, s := range texts {
		l = append(l, []byte(s))
	}
	return l
}

// wrapped is a frame.
func wrapped(kind int, payload string) []byte {
	b, e := frame.Wrap(kind, []byte(payload))
	if e != api.OK {
		panic(e)
	}
	return b
}

// eight is a number's eight bytes.
func eight(n int) string {
	return string(binary.BigEndian.AppendUint64(nil, uint64(n)))
}

// opening is the payload of a frame of kind 32.
func opening(n, count int) string {
	return eight(n) + string([]byte{byte(count / 256), byte(count)})
}

// plainTx is a transaction's bytes by the chapter's words.
func plainTx(n int, items [][]byte) []byte {
	b := wrapped(32, opening(n, len(items)))
	for _, x := range items {
		b = append(b, wrapped(33, string(x))...)
	}
	return append(b, wrapped(34, eight(n))...)
}

// P17.1: the bytes of a transaction, each of them written out.
func TestBytes(t *testing.T) {
	for _, c := range []struct {
		n     int
		items [][]byte
		// payloads tells of each frame its kind and its payload.
		payloads []string
	}{
		{1, nil, []string{"\x20\x00\x00\x00\x00\x00\x00\x00\x01\x00\x00", "\x22\x00\x00\x00\x00\x00\x00\x00\x01"}},
		{1, [][]byte{}, []string{"\x20\x00\x00\x00\x00\x00\x00\x00\x01\x00\x00", "\x22\x00\x00\x00\x00\x00\x00\x00\x01"}},
		{258, items("a", "", "bPc"), []string{
			"\x20\x00\x00\x00\x00\x00\x00\x01\x02\x00\x03", "\x21a", "\x21", "\x21bPc", "\x22\x00\x00\x00\x00\x00\x00\x01\x02",
		}},
		{math.MaxInt, [][]byte{nil}, []string{"\x20\x7f\xff\xff\xff\xff\xff\xff\xff\x00\x01", "\x21", "\x22\x7f\xff\xff\xff\xff\xff\xff\xff"}},
	} {
		var want []byte
		for _, p := range c.payloads {
			want = append(want, wrapped(int(p[0]), p[1:])...)
		}
		if b, e := Bytes(c.n, c.items); e != api.OK || !bytes.Equal(b, want) {
			t.Errorf("Bytes(%d, %q): %x %d, not %x", c.n, c.items, b, e, want)
		}
	}
}

// P17.1: as many items as may be, as long as they may be; one more, or one byte more, is too much.
func TestBytesLimits(t *testing.T) {
	most, longest := make([][]byte, 1000), []byte(string(make([]byte, 4096)))
	for _, l := range [][][]byte{most, {longest}, {nil, longest, nil}} {
		if b, e := Bytes(7, l); e != api.OK || !bytes.Equal(b, plainTx(7, l)) {
			t.Errorf("%d items: %d", len(l), e)
		}
	}
	for i := range most {
		most[i] = longest
	}
	if b, e := Bytes(7, most); e != api.OK || !bytes.Equal(b, plainTx(7, most)) {
		t.Errorf("the greatest: %d", e)
	}
	for _, l := range [][][]byte{make([][]byte, 1001), make([][]byte, 65536), {append(longest, 0)}, {nil, nil, make([]byte, 65537)}} {
		if b, e := Bytes(7, l); e != api.ErrLarge || len(b) != 0 {
			t.Errorf("%d items: %d bytes, %d", len(l), len(b), e)
		}
	}
}

// P17.1: numbers below 1, ahead of all else.
func TestBytesNumbers(t *testing.T) {
	for _, n := range []int{0, -1, math.MinInt} {
		for _, l := range [][][]byte{nil, items("a"), make([][]byte, 1001)} {
			if b, e := Bytes(n, l); e != api.ErrArg || len(b) != 0 {
				t.Errorf("Bytes(%d, %d items): %x %d", n, len(l), b, e)
			}
		}
	}
}

// P17.5: what is handed in stays, with what lies behind it; what is answered is new.
func TestBytesMemory(t *testing.T) {
	memory := []byte("onetwo")
	list := [][]byte{memory[:3], memory[3:5], []byte("behind")}
	b, _ := Bytes(1, list[:2])
	want := plainTx(1, items("one", "tw"))
	for i := range b[:cap(b)] {
		b[:cap(b)][i] = 'x'
	}
	if string(memory) != "onetwo" || string(list[2]) != "behind" {
		t.Errorf("%q %q", memory, list)
	}
	b, _ = Bytes(1, list[:2])
	copy(memory, "xxxxxx")
	if !bytes.Equal(b, want) {
		t.Errorf("%x, not %x", b, want)
	}
}
