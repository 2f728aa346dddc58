package octet

import (
	"bytes"
	"math"
	"testing"

	"pigeonhole/api"
)

// stands fails, where a source has another error, or not so many bytes left.
func stands(t *testing.T, s *Source, e api.Errno, left int) {
	t.Helper()
	if s.Err() != e || s.Left() != left {
		t.Errorf("error %d, left %d, not %d, %d", s.Err(), s.Left(), e, left)
	}
}

// P1.4: one behind the other, to the end.
func TestSourceRow(t *testing.T) {
	s := NewSource([]byte{1, 2, 255, 255, 254, 0, 0, 0, 2, 'a', 'b', 9, 8})
	stands(t, s, api.OK, 13)
	if v := s.U(2); v != 258 {
		t.Errorf("U: %d", v)
	}
	stands(t, s, api.OK, 11)
	if n := s.I(3); n != -2 {
		t.Errorf("I: %d", n)
	}
	stands(t, s, api.OK, 8)
	if x := s.Text(2); x != "ab" {
		t.Errorf("Text: %q", x)
	}
	stands(t, s, api.OK, 2)
	if s.Done() != api.ErrForm {
		t.Errorf("Done: %d", s.Done())
	}
	if b := s.Raw(2); !bytes.Equal(b, []byte{9, 8}) {
		t.Errorf("Raw: %x", b)
	}
	stands(t, s, api.OK, 0)
	if s.Done() != api.OK {
		t.Errorf("Done: %d", s.Done())
	}
}

// P1.4: Done of bytes that are left is no error that stays.
func TestSourceDone(t *testing.T) {
	s := NewSource([]byte{5})
	if s.Done() != api.ErrForm || s.Err() != api.OK {
		t.Errorf("%d %d", s.Done(), s.Err())
	}
	if s.U(1) != 5 || s.Done() != api.OK {
		t.Errorf("%d", s.Done())
	}
	if s := NewSource(nil); s.Done() != api.OK || s.Left() != 0 || s.Err() != api.OK {
		t.Error("a source without bytes")
	}
}

// P1.4: numbers of a size outside 1 to 8, ahead of bytes that lack.
func TestSourceSizes(t *testing.T) {
	for _, k := range outside {
		for _, b := range [][]byte{nil, {1}, bytes.Repeat([]byte{255}, 20)} {
			s := NewSource(b)
			if v := s.U(k); v != 0 {
				t.Errorf("U(%d): %d", k, v)
			}
			stands(t, s, api.ErrArg, len(b))
			s = NewSource(b)
			if n := s.I(k); n != 0 {
				t.Errorf("I(%d): %d", k, n)
			}
			stands(t, s, api.ErrArg, len(b))
		}
	}
}

// P1.4: numbers whose bytes lack; with all of them they are there.
func TestSourceNumbers(t *testing.T) {
	ones := bytes.Repeat([]byte{255}, 8)
	for k := 1; k <= 8; k++ {
		s := NewSource(ones[:k-1])
		if v := s.U(k); v != 0 {
			t.Errorf("U(%d): %d", k, v)
		}
		stands(t, s, api.ErrShort, k-1)
		s = NewSource(ones[:k-1])
		if n := s.I(k); n != 0 {
			t.Errorf("I(%d): %d", k, n)
		}
		stands(t, s, api.ErrShort, k-1)
		s = NewSource(ones[:k])
		if v := s.U(k); v != math.MaxUint64>>(64-8*k) {
			t.Errorf("U(%d): %x", k, v)
		}
		stands(t, s, api.OK, 0)
		s = NewSource(ones[:k])
		if n := s.I(k); n != -1 {
			t.Errorf("I(%d): %d", k, n)
		}
		stands(t, s, api.OK, 0)
	}
}

// P1.4: texts, their errors in order, and that nothing of a refused one is taken.
func TestSourceText(t *testing.T) {
	for _, c := range []struct {
		b    []byte
		most int
		x    string
		e    api.Errno
		left int
	}{
		{[]byte{0, 0, 0, 1, 'a'}, 1, "a", api.OK, 0},
		{[]byte{0, 0, 0, 1, 'a', 'b'}, math.MaxInt, "a", api.OK, 1},
		{[]byte{0, 0, 0, 2, 0, 255}, 2, "\x00\xff", api.OK, 0},
		{[]byte{0, 0, 0, 0}, 0, "", api.OK, 0},
		{[]byte{0, 0, 0, 0, 7}, 5, "", api.OK, 1},
		{[]byte{0, 0, 0, 0}, -1, "", api.ErrLarge, 4},
		{[]byte{0, 0, 0, 0}, math.MinInt, "", api.ErrLarge, 4},
		{[]byte{0, 0, 0, 2, 'a', 'b'}, 1, "", api.ErrLarge, 6},
		{[]byte{0, 0, 0, 2}, 1, "", api.ErrLarge, 4},
		{[]byte{0, 0, 0, 2, 'a'}, 2, "", api.ErrShort, 5},
		{[]byte{0, 0, 0, 2, 'a'}, math.MaxInt, "", api.ErrShort, 5},
		{[]byte{255, 255, 255, 255, 'a'}, 1<<32 - 1, "", api.ErrShort, 5},
		{[]byte{255, 255, 255, 255, 'a'}, 1<<32 - 2, "", api.ErrLarge, 5},
		{[]byte{0, 0, 0}, 9, "", api.ErrShort, 3},
		{[]byte{0, 0, 0}, -1, "", api.ErrShort, 3},
		{nil, 9, "", api.ErrShort, 0},
	} {
		s := NewSource(c.b)
		if x := s.Text(c.most); x != c.x {
			t.Errorf("%x, %d: %q", c.b, c.most, x)
		}
		stands(t, s, c.e, c.left)
	}
}

// P1.4: bytes as they are.
func TestSourceRaw(t *testing.T) {
	for _, c := range []struct {
		n    int
		b    []byte
		e    api.Errno
		left int
	}{
		{0, nil, api.OK, 3},
		{2, []byte{1, 2}, api.OK, 1},
		{3, []byte{1, 2, 3}, api.OK, 0},
		{4, nil, api.ErrShort, 3},
		{math.MaxInt, nil, api.ErrShort, 3},
		{-1, nil, api.ErrArg, 3},
		{math.MinInt, nil, api.ErrArg, 3},
	} {
		s := NewSource([]byte{1, 2, 3, 4}[:3])
		if b := s.Raw(c.n); !bytes.Equal(b, c.b) {
			t.Errorf("Raw(%d): %x", c.n, b)
		}
		stands(t, s, c.e, c.left)
	}
}

// P1.4: behind the first error nothing is taken, and no other error comes in its place.
func TestSourceErrorStays(t *testing.T) {
	b := []byte{0, 0, 0, 1, 'a', 'b'}
	for _, c := range []struct {
		fault func(s *Source)
		e     api.Errno
	}{
		{func(s *Source) { s.U(7) }, api.ErrShort},
		{func(s *Source) { s.I(8) }, api.ErrShort},
		{func(s *Source) { s.Raw(7) }, api.ErrShort},
		{func(s *Source) { s.Raw(-1) }, api.ErrArg},
		{func(s *Source) { s.U(9) }, api.ErrArg},
		{func(s *Source) { s.Text(0) }, api.ErrLarge},
	} {
		s := NewSource(b)
		c.fault(s)
		for range 2 {
			if s.U(1) != 0 || s.I(1) != 0 || s.Text(9) != "" || len(s.Raw(1)) != 0 || len(s.Raw(0)) != 0 {
				t.Errorf("error %d: taken", c.e)
			}
			if s.U(0) != 0 || s.I(9) != 0 || s.Text(-1) != "" || len(s.Raw(-1)) != 0 || len(s.Raw(99)) != 0 || s.U(8) != 0 {
				t.Errorf("error %d: taken", c.e)
			}
			stands(t, s, c.e, len(b))
			if s.Done() != c.e {
				t.Errorf("error %d: Done %d", c.e, s.Done())
			}
		}
	}
}

// P1.4: an error behind something that was taken leaves the rest where it is.
func TestSourceErrorLater(t *testing.T) {
	s := NewSource([]byte{1, 2, 3})
	if s.U(2) != 258 || s.U(2) != 0 {
		t.Error("U")
	}
	stands(t, s, api.ErrShort, 1)
	if s.U(1) != 0 {
		t.Error("taken behind an error")
	}
	s = NewSource([]byte{4})
	s.U(1)
	s.Raw(-1)
	stands(t, s, api.ErrArg, 0)
	if s.Done() != api.ErrArg {
		t.Errorf("Done: %d", s.Done())
	}
}

// P1.5: what is put is taken as it was.
func TestPutIsTaken(t *testing.T) {
	for k := 1; k <= 8; k++ {
		s := NewSink()
		least := math.MinInt >> (64 - 8*k)
		signed := []int{least, least + 1, -1, 0, 1, -least - 1}
		whole := []uint64{0, 1, math.MaxUint64 >> (64 - 8*k), 1 << (8*k - 1)}
		for _, n := range signed {
			s.I(n, k)
		}
		s.Text("\x00text\xff")
		for _, v := range whole {
			s.U(v, k)
		}
		s.Raw([]byte{5, 6})
		r := NewSource(s.Bytes())
		for _, n := range signed {
			if got := r.I(k); got != n {
				t.Errorf("I of %d bytes: %d, not %d", k, got, n)
			}
		}
		if x := r.Text(6); x != "\x00text\xff" {
			t.Errorf("%q", x)
		}
		for _, v := range whole {
			if got := r.U(k); got != v {
				t.Errorf("U of %d bytes: %d, not %d", k, got, v)
			}
		}
		if b := r.Raw(2); !bytes.Equal(b, []byte{5, 6}) || r.Done() != api.OK {
			t.Errorf("%x %d", b, r.Done())
		}
	}
}

// P1.5: what is handed in stays and isn't kept; what is answered is new memory.
func TestSourceMemory(t *testing.T) {
	in := []byte{1, 2, 3, 4, 5}
	s := NewSource(in)
	a := s.Raw(2)
	a[0], a[1] = 9, 9
	_ = append(a, 9, 9)
	if !bytes.Equal(in, []byte{1, 2, 3, 4, 5}) {
		t.Errorf("%x", in)
	}
	in[2] = 99
	b := s.Raw(2)
	if !bytes.Equal(b, []byte{3, 4}) || !bytes.Equal(a, []byte{9, 9}) {
		t.Errorf("%x %x", a, b)
	}
	_ = append(b, 9)
	in[4] = 99
	if v := s.U(1); v != 5 {
		t.Errorf("%d", v)
	}
}
