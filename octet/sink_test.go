package octet

import (
	"bytes"
	"math"
	"strings"
	"testing"
)

// has fails, where a sink has other bytes than these.
func has(t *testing.T, s *Sink, want []byte) {
	t.Helper()
	if !bytes.Equal(s.Bytes(), want) || s.Len() != len(want) {
		t.Errorf("%x (%d), not %x", s.Bytes(), s.Len(), want)
	}
}

// P1.3: a new sink has nothing; what is put comes one behind the other.
func TestSinkRow(t *testing.T) {
	s := NewSink()
	has(t, s, nil)
	if !s.U(258, 2) {
		t.Error("U")
	}
	has(t, s, []byte{1, 2})
	if !s.I(-2, 4) {
		t.Error("I")
	}
	s.Text("ab")
	s.Raw([]byte{9, 0})
	has(t, s, []byte{1, 2, 255, 255, 255, 254, 0, 0, 0, 2, 'a', 'b', 9, 0})
}

// P1.3: the bytes of signed numbers of each size.
func TestSinkSigned(t *testing.T) {
	for _, c := range []struct {
		v, k int
		b    []byte
	}{
		{0, 1, []byte{0}},
		{127, 1, []byte{127}},
		{-128, 1, []byte{128}},
		{-1, 1, []byte{255}},
		{-2, 3, []byte{255, 255, 254}},
		{258, 3, []byte{0, 1, 2}},
		{-1 << 31, 4, []byte{128, 0, 0, 0}},
		{-1 << 55, 7, []byte{128, 0, 0, 0, 0, 0, 0}},
		{math.MinInt, 8, []byte{128, 0, 0, 0, 0, 0, 0, 0}},
		{math.MaxInt, 8, []byte{127, 255, 255, 255, 255, 255, 255, 255}},
		{-1, 8, bytes.Repeat([]byte{255}, 8)},
	} {
		s := NewSink()
		if !s.I(c.v, c.k) {
			t.Errorf("I(%d, %d)", c.v, c.k)
		}
		has(t, s, c.b)
	}
}

// P1.3: what is refused puts nothing.
func TestSinkRefuses(t *testing.T) {
	s := NewSink()
	s.Raw([]byte{7})
	for k := 1; k <= 7; k++ {
		if s.U(1<<(8*k), k) || s.U(math.MaxUint64, k) {
			t.Errorf("U of %d bytes", k)
		}
		if s.I(1<<(8*k-1), k) || s.I(-1<<(8*k-1)-1, k) {
			t.Errorf("I of %d bytes", k)
		}
	}
	for _, k := range outside {
		if s.U(0, k) || s.I(0, k) || s.I(-1, k) {
			t.Errorf("%d bytes", k)
		}
	}
	has(t, s, []byte{7})
	if !s.U(8, 1) {
		t.Error("U behind what was refused")
	}
	has(t, s, []byte{7, 8})
}

// P1.3: texts of any bytes, and bytes as they are.
func TestSinkTexts(t *testing.T) {
	s := NewSink()
	s.Text("")
	s.Raw(nil)
	s.Raw([]byte{})
	has(t, s, []byte{0, 0, 0, 0})
	s = NewSink()
	s.Text("a")
	s.Text("\x00\xff\xc3")
	has(t, s, []byte{0, 0, 0, 1, 'a', 0, 0, 0, 3, 0, 255, 0xc3})
	s = NewSink()
	s.Text(strings.Repeat("x", 70000))
	has(t, s, append([]byte{0, 1, 0x11, 0x70}, bytes.Repeat([]byte("x"), 70000)...))
}

// P1.5: what is handed in stays and isn't kept; what is answered is new memory.
func TestSinkMemory(t *testing.T) {
	in := []byte{1, 2, 3, 4}
	s := NewSink()
	s.Raw(in[:2])
	s.U(9, 1)
	if !bytes.Equal(in, []byte{1, 2, 3, 4}) {
		t.Errorf("%x", in)
	}
	in[0] = 99
	has(t, s, []byte{1, 2, 9})
	out := s.Bytes()
	out[0] = 98
	_ = append(out, 97)
	s.U(8, 1)
	has(t, s, []byte{1, 2, 9, 8})
	out = s.Bytes()
	s.Raw(out)
	if !bytes.Equal(out, []byte{1, 2, 9, 8}) {
		t.Errorf("%x", out)
	}
	has(t, s, []byte{1, 2, 9, 8, 1, 2, 9, 8})
}
