package octet

import (
	"bytes"
	"math"
	"testing"
)

// outside are numbers of bytes that no number has.
var outside = []int{0, -1, -8, 9, 64, math.MinInt, math.MaxInt}

// P1.1: Put of numbers that fit, at both ends of each size.
func TestPutFits(t *testing.T) {
	for _, c := range []struct {
		v uint64
		k int
		b []byte
	}{
		{258, 2, []byte{1, 2}},
		{0, 1, []byte{0}},
		{255, 1, []byte{255}},
		{256, 2, []byte{1, 0}},
		{5, 3, []byte{0, 0, 5}},
		{0x01020304, 4, []byte{1, 2, 3, 4}},
		{0xfffffffffe, 5, []byte{255, 255, 255, 255, 254}},
		{0x8000000000, 6, []byte{0, 128, 0, 0, 0, 0}},
		{1<<56 - 1, 7, []byte{255, 255, 255, 255, 255, 255, 255}},
		{0x0102030405060708, 8, []byte{1, 2, 3, 4, 5, 6, 7, 8}},
		{math.MaxUint64, 8, []byte{255, 255, 255, 255, 255, 255, 255, 255}},
		{0, 8, make([]byte, 8)},
	} {
		if b, ok := Put(c.v, c.k); !ok || !bytes.Equal(b, c.b) {
			t.Errorf("Put(%d, %d): %x %v, not %x", c.v, c.k, b, ok, c.b)
		}
	}
}

// P1.1: the greatest number of each size fits, one more doesn't.
func TestPutEdges(t *testing.T) {
	for k := 1; k <= 7; k++ {
		most := uint64(1)<<(8*k) - 1
		if b, ok := Put(most, k); !ok || !bytes.Equal(b, bytes.Repeat([]byte{255}, k)) {
			t.Errorf("Put(%d, %d): %x %v", most, k, b, ok)
		}
		for _, v := range []uint64{most + 1, math.MaxUint64, 1 << 63} {
			if b, ok := Put(v, k); ok || len(b) != 0 {
				t.Errorf("Put(%d, %d): %x %v", v, k, b, ok)
			}
		}
	}
}

// P1.1, P1.2: sizes outside 1 to 8 are refused by all.
func TestSizesOutside(t *testing.T) {
	for _, k := range outside {
		for _, v := range []uint64{0, 1, math.MaxUint64} {
			if b, ok := Put(v, k); ok || len(b) != 0 {
				t.Errorf("Put(%d, %d): %x %v", v, k, b, ok)
			}
			if n, ok := Signed(v, k); ok || n != 0 {
				t.Errorf("Signed(%d, %d): %d %v", v, k, n, ok)
			}
			if n, ok := Turn(v, k); ok || n != 0 {
				t.Errorf("Turn(%d, %d): %d %v", v, k, n, ok)
			}
			if Fits(int(v), k) {
				t.Errorf("Fits(%d, %d)", int(v), k)
			}
		}
		for _, at := range []int{0, 1, 10} {
			if v, ok := Get(bytes.Repeat([]byte{1}, 10), at, k); ok || v != 0 {
				t.Errorf("Get(.., %d, %d): %d %v", at, k, v, ok)
			}
		}
	}
}

// P1.1: Get of numbers that are there, to the last byte.
func TestGet(t *testing.T) {
	b := []byte{1, 2, 3, 4, 5, 6, 7, 8, 255}
	for _, c := range []struct {
		at, k int
		v     uint64
	}{
		{0, 1, 1},
		{8, 1, 255},
		{1, 2, 0x0203},
		{6, 3, 0x0708ff},
		{0, 4, 0x01020304},
		{4, 5, 0x05060708ff},
		{0, 8, 0x0102030405060708},
		{1, 8, 0x02030405060708ff},
	} {
		if v, ok := Get(b, c.at, c.k); !ok || v != c.v {
			t.Errorf("Get(.., %d, %d): %x %v, not %x", c.at, c.k, v, ok, c.v)
		}
	}
	if v, ok := Get(bytes.Repeat([]byte{255}, 8), 0, 8); !ok || v != math.MaxUint64 {
		t.Errorf("%x %v", v, ok)
	}
}

// P1.1: Get of numbers that aren't there as a whole; what lies behind the list's length isn't read.
func TestGetLacks(t *testing.T) {
	whole := []byte{1, 2, 3, 4, 5, 6, 7, 8, 9}
	for _, c := range []struct {
		b     []byte
		at, k int
	}{
		{whole, -1, 1},
		{whole, -1, 8},
		{whole, math.MinInt, 1},
		{whole, math.MaxInt, 1},
		{whole, math.MaxInt, 8},
		{whole, math.MaxInt - 7, 8},
		{whole, 9, 1},
		{whole, 8, 2},
		{whole, 2, 8},
		{whole[:3], 0, 4},
		{whole[:3], 3, 1},
		{nil, 0, 1},
		{nil, 0, 8},
		{nil, -8, 8},
	} {
		if v, ok := Get(c.b, c.at, c.k); ok || v != 0 {
			t.Errorf("Get(%x, %d, %d): %d %v", c.b, c.at, c.k, v, ok)
		}
	}
}

// P1.2: at the edges of each size.
func TestFits(t *testing.T) {
	for k := 1; k <= 7; k++ {
		most := 1<<(8*k-1) - 1
		for _, v := range []int{0, 1, -1, most, -most - 1} {
			if !Fits(v, k) {
				t.Errorf("not Fits(%d, %d)", v, k)
			}
		}
		for _, v := range []int{most + 1, -most - 2, math.MaxInt, math.MinInt} {
			if Fits(v, k) {
				t.Errorf("Fits(%d, %d)", v, k)
			}
		}
	}
	for _, v := range []int{0, -1, math.MaxInt, math.MinInt} {
		if !Fits(v, 8) {
			t.Errorf("not Fits(%d, 8)", v)
		}
	}
}

// P1.2: the signed number, and that one that is too great has none.
func TestSigned(t *testing.T) {
	for _, c := range []struct {
		v  uint64
		k  int
		n  int
		ok bool
	}{
		{0, 1, 0, true},
		{127, 1, 127, true},
		{128, 1, -128, true},
		{255, 1, -1, true},
		{256, 1, 0, false},
		{0xffff, 2, -1, true},
		{0xff, 2, 255, true},
		{0xffff, 3, 65535, true},
		{0x10000, 2, 0, false},
		{0x80000000, 4, -1 << 31, true},
		{0x7fffffff, 4, 1<<31 - 1, true},
		{1<<56 - 2, 7, -2, true},
		{1 << 56, 7, 0, false},
		{math.MaxUint64, 7, 0, false},
		{math.MaxUint64, 8, -1, true},
		{1 << 63, 8, math.MinInt, true},
		{1<<63 - 1, 8, math.MaxInt, true},
	} {
		if n, ok := Signed(c.v, c.k); n != c.n || ok != c.ok {
			t.Errorf("Signed(%d, %d): %d %v, not %d %v", c.v, c.k, n, ok, c.n, c.ok)
		}
	}
}

// P1.2: the number turned about; noughts ahead come behind.
func TestTurn(t *testing.T) {
	for _, c := range []struct {
		v  uint64
		k  int
		n  uint64
		ok bool
	}{
		{258, 2, 513, true},
		{7, 1, 7, true},
		{255, 1, 255, true},
		{256, 1, 0, false},
		{1, 2, 256, true},
		{0x010203, 3, 0x030201, true},
		{0x1000000, 3, 0, false},
		{0xff, 4, 0xff000000, true},
		{0x0102030405, 5, 0x0504030201, true},
		{1 << 56, 7, 0, false},
		{0x0102030405060708, 8, 0x0807060504030201, true},
		{1, 8, 1 << 56, true},
		{math.MaxUint64, 8, math.MaxUint64, true},
		{0, 8, 0, true},
	} {
		if n, ok := Turn(c.v, c.k); n != c.n || ok != c.ok {
			t.Errorf("Turn(%x, %d): %x %v, not %x %v", c.v, c.k, n, ok, c.n, c.ok)
		}
	}
}

// P1.1, P1.2, P1.5: what is put is got as it was, wherever it stands.
func TestPutIsGot(t *testing.T) {
	for k := 1; k <= 8; k++ {
		for bit := range 8 * k {
			v := uint64(1)<<bit | 1
			b, _ := Put(v, k)
			about := append(append([]byte{9, 9}, b...), 9)
			if n, ok := Get(about, 2, k); !ok || n != v {
				t.Errorf("%d bytes of %x: %x %v", k, v, n, ok)
			}
			turned, _ := Turn(v, k)
			if n, ok := Turn(turned, k); !ok || n != v {
				t.Errorf("%d bytes of %x turned twice: %x %v", k, v, n, ok)
			}
		}
	}
}

// P1.5: what Put answers is new memory, and what Get is handed stays.
func TestPutIsNew(t *testing.T) {
	a, _ := Put(258, 2)
	b, _ := Put(258, 2)
	a[0] = 9
	_ = append(a, 9)
	if !bytes.Equal(b, []byte{1, 2}) {
		t.Errorf("%x", b)
	}
	Get(b, 0, 2)
	if !bytes.Equal(b, []byte{1, 2}) {
		t.Errorf("%x", b)
	}
}
