package record

import (
	"bytes"
	"math"
	"slices"
	"testing"

	"pigeonhole/api"
	"pigeonhole/frame"
)

// reads fails, where Read doesn't tell that error, and beside it nothing.
func reads(t *testing.T, kind int, payload []byte, want api.Errno) {
	t.Helper()
	if r, e := Read(kind, payload); e != want || want != api.OK && tells(r) != tells(api.Rec{}) {
		t.Errorf("Read(%d, %x): %s %d, not %d", kind, payload, tells(r), e, want)
	}
}

// P14.2: payloads that are too short, cut anywhere, and ones that are too long.
func TestReadLengths(t *testing.T) {
	l, payloads := samples()
	for i, b := range payloads {
		kind := l[i].Kind
		whole := len(b)
		if kind == api.RecBody {
			whole = 4
		}
		for n := range whole {
			reads(t, kind, b[:n], api.ErrShort)
			reads(t, kind, make([]byte, n), api.ErrShort)
		}
		reads(t, kind, nil, api.ErrShort)
		if kind != api.RecBody {
			reads(t, kind, append(slices.Clone(b), 0), api.ErrForm)
			reads(t, kind, append(slices.Clone(b), make([]byte, api.MaxMsg+1)...), api.ErrForm)
			reads(t, kind, make([]byte, whole+1), api.ErrForm)
		}
	}
}

// P14.2: kinds that are none, whatever the payload.
func TestReadKinds(t *testing.T) {
	_, payloads := samples()
	for _, kind := range []int{0, 7, -1, 8, 255, 256, 259, math.MinInt, math.MaxInt} {
		reads(t, kind, nil, api.ErrKind)
		for _, b := range payloads {
			reads(t, kind, b, api.ErrKind)
		}
	}
}

// P14.2: the data of a body, none, as many as there may be, and one more, which is told ahead of its number.
func TestReadBody(t *testing.T) {
	one := []byte{0, 0, 0, 1}
	reads(t, api.RecBody, one, api.OK)
	reads(t, api.RecBody, append(slices.Clone(one), make([]byte, api.MaxMsg)...), api.OK)
	reads(t, api.RecBody, append(slices.Clone(one), make([]byte, api.MaxMsg+1)...), api.ErrLarge)
	reads(t, api.RecBody, make([]byte, 4+api.MaxMsg+1), api.ErrLarge)
	reads(t, api.RecBody, make([]byte, 4+api.MaxMsg), api.ErrArg)
	reads(t, api.RecBody, []byte{0x80, 0, 0, 0}, api.OK)
	reads(t, api.RecBody, []byte{0x80, 0, 0, 1}, api.ErrArg)
	r, e := Read(api.RecBody, one)
	if e != api.OK || r.Body != 1 || len(r.Data) != 0 {
		t.Errorf("%s %d", tells(r), e)
	}
}

// P14.2: each field just outside of what it may be, and as great as its bytes can tell.
func TestReadEdges(t *testing.T) {
	l, payloads := samples()
	for i, r := range l {
		at := 0
		for _, f := range plainKinds[r.Kind] {
			b := slices.Clone(payloads[i])
			for k := range f.bytes {
				b[at+k] = 0xff
			}
			reads(t, r.Kind, b, api.ErrArg)
			b[at] = 0x80 // below 0, were it a signed one
			for k := 1; k < f.bytes; k++ {
				b[at+k] = 0
			}
			if f.bytes != 4 || f.name == "Size" {
				reads(t, r.Kind, b, api.ErrArg)
			}
			if f.least > 0 {
				b[at] = 0
				reads(t, r.Kind, b, api.ErrArg)
			}
			for k := range f.bytes {
				b[at+k] = byte((f.most + 1) >> (8 * (f.bytes - 1 - k)))
			}
			reads(t, r.Kind, b, api.ErrArg)
			at += f.bytes
		}
	}
}

// P14.3: records in their order, with what is none ahead, between and behind.
func TestScan(t *testing.T) {
	l, _ := samples()
	strange, _ := frame.Wrap(9, []byte("a frame, but no record"))
	wrong, _ := frame.Wrap(api.RecGone, []byte{0, 0, 0, 0})
	var row []byte
	var want []api.Found
	lost := 0
	for i, r := range l {
		between := [][]byte{[]byte("P\x51"), nil, strange, wrong, {0x50, 1}, []byte("x")}[i]
		row = append(row, between...)
		lost += len(between)
		w, _ := Frame(r)
		want = append(want, api.Found{At: len(row), Len: len(w), Rec: r})
		row = append(row, w...)
	}
	if got, broken := Scan(row); broken != lost || tellsAll(got) != tellsAll(want) {
		t.Errorf("%s%d, not %s%d", tellsAll(got), broken, tellsAll(want), lost)
	}
	for n := range len(row) {
		whole, in := 0, 0
		for whole < len(want) && want[whole].At+want[whole].Len <= n {
			in += want[whole].Len
			whole++
		}
		if got, broken := Scan(row[:n]); broken != n-in || tellsAll(got) != tellsAll(want[:whole]) {
			t.Fatalf("cut to %d: %s%d", n, tellsAll(got), broken)
		}
	}
}

// P14.3: bytes without a record are broken, all of them.
func TestScanNothing(t *testing.T) {
	strange, _ := frame.Wrap(0, nil)
	for _, b := range [][]byte{nil, {}, []byte("abc"), {0x50}, bytes.Repeat([]byte{0x50}, 99), strange} {
		if l, broken := Scan(b); len(l) != 0 || broken != len(b) {
			t.Errorf("Scan(%x): %s%d", b, tellsAll(l), broken)
		}
	}
}

// P14.4: what is handed in stays and isn't kept; what is answered is new memory, and shares none.
func TestReadMemory(t *testing.T) {
	in := []byte{0, 0, 0, 1, 'a', 'b', 'c', 'd'}
	r, _ := Read(api.RecBody, in[:6])
	_ = append(r.Data, "xyz"...)
	if string(in) != "\x00\x00\x00\x01abcd" {
		t.Errorf("%q", in)
	}
	clear(in)
	if string(r.Data) != "ab" {
		t.Errorf("%q", r.Data)
	}
	r.Data[0] = 'x'
	if in[4] != 0 {
		t.Errorf("%q", in)
	}
	w, _ := Frame(api.Rec{Kind: api.RecBody, Body: 1, Data: []byte("ab")})
	row := slices.Concat(w, w)
	kept := slices.Clone(row)
	l, _ := Scan(row)
	_ = append(l[0].Rec.Data, "xyz"...)
	l[0].Rec.Data[0] = 'x'
	if !bytes.Equal(row, kept) || string(l[1].Rec.Data) != "ab" {
		t.Errorf("%x %q", row, l[1].Rec.Data)
	}
	clear(row)
	if string(l[0].Rec.Data) != "xb" || string(l[1].Rec.Data) != "ab" {
		t.Errorf("%s", tellsAll(l))
	}
}
