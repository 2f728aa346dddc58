package record

import (
	"bytes"
	"math"
	"slices"
	"testing"

	"pigeonhole/api"
	"pigeonhole/frame"
)

// samples are a right record of each kind, and the payload of each.
func samples() ([]api.Rec, [][]byte) {
	return []api.Rec{
		{Kind: api.RecHead, User: 258, Seq: 0x01020304, Next: 0x05060708, Base: 0x090a0b0c},
		{Kind: api.RecMsg, Uid: 0x11121314, Time: 0x0001020304050607, Flags: 21, Body: 0x21222324, Size: 0x3132, Origin: 0x0011121314151617},
		{Kind: api.RecGone, Uid: 258},
		{Kind: api.RecFlag, Uid: 0x01020304, Flags: 5},
		{Kind: api.RecSeal, Next: 0x01020304},
		{Kind: api.RecBody, Body: 0x01020304, Data: []byte("hi\x00\x50")},
	}, [][]byte{
		{1, 2, 1, 2, 3, 4, 5, 6, 7, 8, 9, 10, 11, 12},
		{0x11, 0x12, 0x13, 0x14, 0, 1, 2, 3, 4, 5, 6, 7, 21, 0x21, 0x22, 0x23, 0x24, 0, 0, 0x31, 0x32, 0, 0x11, 0x12, 0x13, 0x14, 0x15, 0x16, 0x17},
		{0, 0, 1, 2},
		{1, 2, 3, 4, 5},
		{1, 2, 3, 4},
		{1, 2, 3, 4, 'h', 'i', 0, 0x50},
	}
}

// P14.1, P14.4: the payload of each kind, its frame, and that it is read as the record.
func TestPayload(t *testing.T) {
	l, payloads := samples()
	for i, r := range l {
		if e := Check(r); e != api.OK {
			t.Errorf("Check(%s): %d", tells(r), e)
		}
		b, e := Payload(r)
		if e != api.OK || !bytes.Equal(b, payloads[i]) {
			t.Errorf("Payload(%s): %x %d, not %x", tells(r), b, e, payloads[i])
		}
		back(t, r, payloads[i])
		want, _ := frame.Wrap(r.Kind, payloads[i])
		if b, e := Frame(r); e != api.OK || !bytes.Equal(b, want) {
			t.Errorf("Frame(%s): %x %d, not %x", tells(r), b, e, want)
		}
	}
}

// refused fails, where Check, Payload and Frame don't all tell that error.
func refused(t *testing.T, r api.Rec, want api.Errno) {
	t.Helper()
	if e := Check(r); e != want {
		t.Errorf("Check(%s): %d, not %d", tells(r), e, want)
	}
	if b, e := Payload(r); e != want || len(b) != 0 {
		t.Errorf("Payload(%s): %x %d, not %d", tells(r), b, e, want)
	}
	if b, e := Frame(r); e != want || len(b) != 0 {
		t.Errorf("Frame(%s): %x %d, not %d", tells(r), b, e, want)
	}
}

// P14.1: kinds that are none, whatever else is wrong.
func TestKinds(t *testing.T) {
	for _, kind := range []int{0, 7, -1, 8, 255, 256, 257, 258, 262, math.MinInt, math.MaxInt} {
		refused(t, api.Rec{Kind: kind}, api.ErrKind)
		refused(t, api.Rec{Kind: kind, Uid: 1}, api.ErrKind)
		refused(t, api.Rec{Kind: kind, Uid: -1, Data: make([]byte, api.MaxMsg+1)}, api.ErrKind)
	}
}

// P14.1: each field that a kind tells, at its edges.
func TestEdges(t *testing.T) {
	l, _ := samples()
	for _, r := range l {
		for _, f := range plainKinds[r.Kind] {
			for _, v := range []int{f.least, f.least + 1, f.most - 1, f.most} {
				x := r
				*place(&x, f.name) = v
				b, e := Payload(x)
				if e != api.OK {
					t.Errorf("%s %d: %d", f.name, v, e)
				}
				back(t, x, b)
			}
			for _, v := range []int{f.least - 1, f.most + 1, -1, math.MinInt, math.MaxInt, math.MinInt + f.least} {
				x := r
				*place(&x, f.name) = v
				refused(t, x, api.ErrArg)
			}
		}
	}
}

// P14.1: the other fields are 0, and the others have no data.
func TestOtherFields(t *testing.T) {
	l, _ := samples()
	for _, r := range l {
		for _, name := range plainNames {
			if slices.ContainsFunc(plainKinds[r.Kind], func(f plainField) bool { return f.name == name }) {
				continue
			}
			for _, v := range []int{1, -1, math.MinInt, math.MaxInt} {
				x := r
				*place(&x, name) = v
				refused(t, x, api.ErrForm)
			}
		}
		if r.Kind != api.RecBody {
			r.Data = []byte{}
			if e := Check(r); e != api.OK {
				t.Errorf("Check(%s) with data without bytes: %d", tells(r), e)
			}
			r.Data = []byte{0}
			refused(t, r, api.ErrForm)
			r.Data = make([]byte, api.MaxMsg+1)
			refused(t, r, api.ErrForm)
		}
	}
}

// P14.1: the data of a body, from none to as many as there may be.
func TestData(t *testing.T) {
	for _, n := range []int{0, 1, api.MaxMsg - 1, api.MaxMsg} {
		r := api.Rec{Kind: api.RecBody, Body: 1, Data: bytes.Repeat([]byte{0x51}, n)}
		b, e := Payload(r)
		if e != api.OK || !bytes.Equal(b, append([]byte{0, 0, 0, 1}, r.Data...)) {
			t.Errorf("%d: %d bytes, %d", n, len(b), e)
		}
		back(t, r, b)
		w, e := Frame(r)
		if l, broken := Scan(w); e != api.OK || len(l) != 1 || broken != 0 || !Same(l[0].Rec, r) {
			t.Errorf("%d: %d %d %d", n, e, len(l), broken)
		}
	}
	refused(t, api.Rec{Kind: api.RecBody, Body: 1, Data: make([]byte, api.MaxMsg+1)}, api.ErrLarge)
}

// P14.1: the errors in their order.
func TestCheckOrder(t *testing.T) {
	large := make([]byte, api.MaxMsg+1)
	refused(t, api.Rec{Kind: api.RecBody, Body: 0, Data: large, Uid: 1}, api.ErrArg)
	refused(t, api.Rec{Kind: api.RecBody, Body: 1, Data: large, Uid: 1}, api.ErrLarge)
	refused(t, api.Rec{Kind: api.RecBody, Body: 1, Uid: 1}, api.ErrForm)
	refused(t, api.Rec{Kind: api.RecGone, Uid: 0, User: 1}, api.ErrArg)
	refused(t, api.Rec{Kind: api.RecFlag, Uid: 1, Flags: 32, Data: []byte{1}}, api.ErrArg)
	refused(t, api.Rec{Kind: api.RecGone, Uid: 1, Data: large}, api.ErrForm)
}

// Records that are one, and others: each field counts, of right records and of others.
func TestSame(t *testing.T) {
	l, _ := samples()
	for i, a := range l {
		for k, b := range l {
			if Same(a, b) != (i == k) {
				t.Errorf("%s and %s", tells(a), tells(b))
			}
		}
	}
	for _, r := range append(l, api.Rec{}, api.Rec{Kind: -1, Uid: -1, Data: []byte{0}}) {
		for _, name := range plainNames {
			x := r
			*place(&x, name)++
			if Same(x, r) || Same(r, x) {
				t.Errorf("%s counts nothing", name)
			}
		}
		for _, data := range [][]byte{append(slices.Clone(r.Data), 0), append([]byte{7}, r.Data...)} {
			x := r
			x.Data = data
			if Same(x, r) || Same(r, x) || !Same(x, x) {
				t.Errorf("%x and %x", x.Data, r.Data)
			}
		}
		x := r
		x.Kind++
		if Same(x, r) {
			t.Error("the kind counts nothing")
		}
	}
	// R3: none and nil are the same.
	if !Same(api.Rec{Data: []byte{}}, api.Rec{}) || !Same(api.Rec{}, api.Rec{Data: make([]byte, 0, 9)}) {
		t.Error("data without bytes and none")
	}
	if Same(api.Rec{Data: []byte("ab")}, api.Rec{Data: []byte("ac")}) {
		t.Error("other data")
	}
}

// P14.4: what is handed in stays and isn't kept; what is answered is new memory.
func TestMemory(t *testing.T) {
	whole := []byte("abcdef")
	r := api.Rec{Kind: api.RecBody, Body: 1, Data: whole[:3]}
	a, _ := Payload(r)
	b, _ := Payload(r)
	w, _ := Frame(r)
	kept := slices.Clone(w)
	_ = append(a, "more"...)
	clear(a)
	if !bytes.Equal(b, []byte{0, 0, 0, 1, 'a', 'b', 'c'}) || string(whole) != "abcdef" {
		t.Errorf("%x %q", b, whole)
	}
	clear(whole)
	if !bytes.Equal(b[4:], []byte("abc")) || !bytes.Equal(w, kept) {
		t.Errorf("%x %x", b, w)
	}
}
