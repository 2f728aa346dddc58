package frame

import (
	"bytes"
	"math"
	"slices"
	"testing"

	"pigeonhole/api"
)

// same tells whether two frames are alike.
func same(f, g api.Frame) bool {
	return f.At == g.At && f.Len == g.Len && f.Kind == g.Kind && bytes.Equal(f.Payload, g.Payload)
}

// sameAll tells whether two lists of frames are.
func sameAll(l, m []api.Frame) bool {
	return slices.EqualFunc(l, m, same)
}

// refused fails, unless At answers that error, and nothing beside it; a place further on too, with a byte ahead.
func refused(t *testing.T, b []byte, at int, want api.Errno) {
	t.Helper()
	f, e := At(b, at)
	g, further := f, e
	if at >= 0 && at < math.MaxInt {
		g, further = At(append([]byte{9}, b...), at+1)
	}
	if e != want || further != want || !same(f, api.Frame{}) || !same(g, api.Frame{}) {
		t.Errorf("At(%x, %d): %v %d, %v %d, not %d", b, at, f, e, g, further, want)
	}
}

// behind is bytes that are veiled already, with a mark ahead.
func behind(b ...byte) []byte {
	return append([]byte{0x50}, b...)
}

// P3.2: what was wrapped is read as it was, wherever it stands and whatever is behind it.
func TestAtTakes(t *testing.T) {
	for _, p := range payloads() {
		for _, kind := range []byte{0, 1, 0x50, 0x51, 255} {
			b := made(kind, p)
			for _, ahead := range [][]byte{nil, {0x50}, {0x51}, []byte("ahead")} {
				for _, next := range [][]byte{nil, {0}, {0x50}, {0x51}, {0x51, 9}} {
					f, e := At(slices.Concat(ahead, b, next), len(ahead))
					want := api.Frame{At: len(ahead), Len: len(b), Kind: int(kind), Payload: p}
					if e != api.OK || !same(f, want) {
						t.Errorf("kind %d, %d bytes: %d, at %d, long %d", kind, len(p), e, f.At, f.Len)
					}
				}
			}
		}
	}
}

// P3.2: each byte that a frame can have, and sums whose bytes are veiled.
func TestAtTakesVeiled(t *testing.T) {
	sums := 0
	for v := range 70000 {
		p := []byte{byte(v >> 16), byte(v >> 8), byte(v)}
		b := made(7, p)
		if bytes.IndexByte(b[6:len(b)-3], 0x51) >= 0 {
			sums++
		}
		if f, e := At(b, 0); e != api.OK || !same(f, api.Frame{Len: len(b), Kind: 7, Payload: p}) {
			t.Errorf("%x: %v %d", b, f, e)
		}
	}
	if sums == 0 {
		t.Error("no sum was veiled")
	}
}

// P3.2: places outside, at the end, and where no mark stands.
func TestAtPlaces(t *testing.T) {
	b := made(1, []byte("one"))
	for _, at := range []int{-1, math.MinInt, len(b) + 1, math.MaxInt} {
		refused(t, b, at, api.ErrArg)
	}
	refused(t, nil, -1, api.ErrArg)
	refused(t, nil, 1, api.ErrArg)
	refused(t, nil, 0, api.ErrShort)
	refused(t, b, len(b), api.ErrShort)
	for at := 1; at < len(b); at++ {
		refused(t, b, at, api.ErrForm)
	}
	for v := range 256 {
		if v != 0x50 {
			refused(t, []byte{byte(v)}, 0, api.ErrForm)
		}
	}
	refused(t, b[:2], len(b), api.ErrArg)
}

// P3.2: cut off anywhere, in two bytes that stand for one, too.
func TestAtCutOff(t *testing.T) {
	for _, p := range [][]byte{nil, []byte("one"), []byte("PPQQ"), make([]byte, 0x50), bytes.Repeat([]byte{0x51}, 0x51)} {
		for _, kind := range []byte{1, 0x50, 0x51} {
			b := made(kind, p)
			for cut := 1; cut < len(b); cut++ {
				refused(t, b[:cut], 0, api.ErrShort)
			}
		}
	}
}

// P3.2: a mark, or a veil with a wrong byte behind it, anywhere in a frame.
func TestAtForm(t *testing.T) {
	b := made(1, []byte("one"))
	for at := 1; at < len(b); at++ {
		refused(t, slices.Concat(b[:at], []byte{0x50}, b[at:]), 0, api.ErrForm)
		refused(t, slices.Concat(b[:at], []byte{0x50}), 0, api.ErrForm)
		for _, v := range []byte{2, 3, 0x4f, 0x50, 0x51, 0x52, 255} {
			refused(t, slices.Concat(b[:at], []byte{0x51, v}, b[at:]), 0, api.ErrForm)
			refused(t, slices.Concat(b[:at], []byte{0x51, v}), 0, api.ErrForm)
		}
		refused(t, slices.Concat(b[:at], []byte{0x51}), 0, api.ErrShort)
	}
}

// P3.2: the length is looked at as soon as it is read, and no sooner.
func TestAtLarge(t *testing.T) {
	most := veiled(plain(1, api.MaxPayload, 0, nil))[:5]
	refused(t, behind(most...), 0, api.ErrShort)
	for _, n := range []uint32{api.MaxPayload + 1, 1 << 24, 0x50000000, math.MaxInt32, 1 << 31, math.MaxUint32} {
		told := behind(veiled(plain(1, n, 0, nil)[:5])...)
		for _, next := range [][]byte{nil, {0}, {0x50}, {0x51}, {0x51, 9}, make([]byte, 100)} {
			refused(t, append(told, next...), 0, api.ErrLarge)
		}
	}
	for cut := range 4 {
		refused(t, behind(1, 255, 255, 255, 255)[:cut+2], 0, api.ErrShort)
	}
	refused(t, behind(1, 255, 255, 255, 0x50), 0, api.ErrForm)
	refused(t, behind(1, 255, 255, 255, 0x51, 2), 0, api.ErrForm)
	refused(t, behind(1, 255, 255, 255, 0x51), 0, api.ErrShort)
	refused(t, behind(1, 255, 255, 255, 0x51, 0), 0, api.ErrLarge)
}

// P3.2: a wrong sum is told last; each bit of kind, sum and payload counts.
func TestAtSum(t *testing.T) {
	p := []byte("oPe")
	sum := rightSum(1, p)
	for bit := range 32 {
		b := behind(veiled(plain(1, 3, sum^1<<bit, p))...)
		refused(t, b, 0, api.ErrSum)
		refused(t, b[:len(b)-1], 0, api.ErrShort)
		refused(t, append(b[:len(b)-1], 0x50), 0, api.ErrForm)
	}
	for bit := range 8 {
		refused(t, behind(veiled(plain(1^1<<bit, 3, sum, p))...), 0, api.ErrSum)
		for i := range p {
			q := bytes.Clone(p)
			q[i] ^= 1 << bit
			refused(t, behind(veiled(plain(1, 3, sum, q))...), 0, api.ErrSum)
		}
	}
	refused(t, behind(veiled(plain(1, 2, sum, p))...), 0, api.ErrSum)
	refused(t, behind(veiled(plain(1, 4, sum, append(p, 0)))...), 0, api.ErrSum)
	refused(t, behind(veiled(plain(1, 0, 0, nil))...), 0, api.ErrSum)
	refused(t, behind(0, 0, 0, 0, 0, 0, 0, 0, 0), 0, api.ErrSum)
}

// row are some frames one behind the other, and what is to be told of them.
func row() (b []byte, want []api.Frame) {
	for i, p := range [][]byte{[]byte("one"), nil, []byte("PQ"), []byte("PQ"), mixed(90, 5), {0x51}} {
		f := made(byte(0x4e+i), p)
		want = append(want, api.Frame{At: len(b), Len: len(f), Kind: 0x4e + i, Payload: p})
		b = append(b, f...)
	}
	return b, want
}

// P3.3, P3.5: the frames of a row, to its end; of nothing none.
func TestRow(t *testing.T) {
	b, want := row()
	if l, used, e := Row(b); !sameAll(l, want) || used != len(b) || e != api.OK {
		t.Errorf("%v %d %d", l, used, e)
	}
	for _, b := range [][]byte{nil, {}} {
		if l, used, e := Row(b); len(l) != 0 || used != 0 || e != api.OK {
			t.Errorf("%v %d %d", l, used, e)
		}
	}
}

// P3.3: what is behind the frames has At's error; the frames, and how many bytes they have, are told all the same.
func TestRowEnds(t *testing.T) {
	b, want := row()
	for _, c := range []struct {
		next []byte
		e    api.Errno
	}{
		{[]byte{0}, api.ErrForm},
		{[]byte{0x50}, api.ErrShort},
		{behind(1, 0, 2, 0, 0), api.ErrLarge},
		{behind(1, 0, 0, 0, 0, 0, 0, 0, 0), api.ErrSum},
		{behind(0x51, 2), api.ErrForm},
		{append([]byte{0x51}, made(1, nil)...), api.ErrForm},
	} {
		if l, used, e := Row(append(b, c.next...)); !sameAll(l, want) || used != len(b) || e != c.e {
			t.Errorf("behind it %x: %d, %d, %d", c.next, len(l), used, e)
		}
		if l, used, e := Row(c.next); len(l) != 0 || used != 0 || e != c.e {
			t.Errorf("%x: %d, %d, %d", c.next, len(l), used, e)
		}
	}
}

// P3.5: a row that is cut off anywhere: Row and Scan tell the frames that are whole.
func TestCutOff(t *testing.T) {
	b, all := row()
	for cut := range len(b) + 1 {
		var want []api.Frame
		end, e, gap := 0, api.ErrShort, []api.Gap{}
		for _, f := range all {
			if f.At+f.Len <= cut {
				want, end = append(want, f), f.At+f.Len
			}
		}
		if end == cut {
			e = api.OK
		} else {
			gap = append(gap, api.Gap{From: end, To: cut})
		}
		if l, used, is := Row(b[:cut]); !sameAll(l, want) || used != end || is != e {
			t.Errorf("%d: %v %d %d", cut, l, used, is)
		}
		if l, gaps := Scan(b[:cut]); !sameAll(l, want) || !slices.Equal(gaps, gap) {
			t.Errorf("%d: %v %v", cut, l, gaps)
		}
	}
}

// P3.4: frames and gaps, of what is broken, by the words of the promise.
func TestScanParts(t *testing.T) {
	a, c := made(1, []byte("one")), made(2, []byte("PQ"))
	broken := bytes.Clone(a)
	broken[len(a)-1] ^= 1
	b := slices.Concat([]byte{9, 0x50}, a, c, broken, broken, a, []byte{0x50, 0x50, 0x51})
	first, second, third := 2, 2+len(a), 2+3*len(a)+len(c)
	l, gaps := Scan(b)
	if !sameAll(l, []api.Frame{
		{At: first, Len: len(a), Kind: 1, Payload: []byte("one")},
		{At: second, Len: len(c), Kind: 2, Payload: []byte("PQ")},
		{At: third, Len: len(a), Kind: 1, Payload: []byte("one")},
	}) {
		t.Errorf("%v", l)
	}
	if !slices.Equal(gaps, []api.Gap{{From: 0, To: 2}, {From: second + len(c), To: third}, {From: len(b) - 3, To: len(b)}}) {
		t.Errorf("%v", gaps)
	}
	for _, b := range [][]byte{nil, {}} {
		if l, gaps := Scan(b); len(l) != 0 || len(gaps) != 0 {
			t.Errorf("%v %v", l, gaps)
		}
	}
	for _, b := range [][]byte{{0}, {0x50}, {0x51}, a[1:], a[:len(a)-1], broken} {
		if l, gaps := Scan(b); len(l) != 0 || !slices.Equal(gaps, []api.Gap{{From: 0, To: len(b)}}) {
			t.Errorf("%x: %v %v", b, l, gaps)
		}
	}
}

// parted fails, unless Scan of b is what At tells, place by place.
func parted(t *testing.T, b []byte) {
	t.Helper()
	var want []api.Frame
	taken := make([]bool, len(b))
	for at := 0; at < len(b); at++ {
		if f, e := At(b, at); e == api.OK {
			want = append(want, f)
			for i := range f.Len {
				taken[at+i] = true
			}
			at += f.Len - 1
		}
	}
	var left []api.Gap
	for at := range b {
		if n := len(left); !taken[at] && n > 0 && left[n-1].To == at {
			left[n-1].To++
		} else if !taken[at] {
			left = append(left, api.Gap{From: at, To: at + 1})
		}
	}
	if l, gaps := Scan(b); !sameAll(l, want) || !slices.Equal(gaps, left) {
		t.Errorf("%x: %v %v, not %v %v", b, l, gaps, want, left)
	}
}

// P3.4: a row with each byte turned, each left out, and each put in once more: each byte is in one frame or gap.
func TestScanBroken(t *testing.T) {
	b, all := row()
	for at := range b {
		for _, v := range []byte{0, 0x50, 0x51, b[at] ^ 1, b[at] ^ 0x80} {
			x := bytes.Clone(b)
			x[at] = v
			parted(t, x)
			parted(t, slices.Insert(bytes.Clone(b), at, v))
		}
		x := slices.Delete(bytes.Clone(b), at, at+1)
		parted(t, x)
		if l, _ := Scan(x); len(l) != len(all)-1 {
			t.Errorf("without the byte at %d: %d frames", at, len(l))
		}
	}
	for seed := range uint32(200) {
		parted(t, mixed(int(seed), seed))
	}
}

// P3.5: whatever stands ahead of frames, Scan tells all of them.
func TestScanBehind(t *testing.T) {
	b, all := row()
	long := made(3, mixed(api.MaxPayload, 3))
	aheads := [][]byte{{0x50}, {0x51}, {0x50, 0x51}, behind(1, 255, 255, 255, 255), behind(1, 0, 1, 0, 0), long[:len(long)-1], long[1:]}
	for cut := range b {
		aheads = append(aheads, b[cut:cut+1], b[:cut], b[cut:])
	}
	for seed := range uint32(100) {
		aheads = append(aheads, mixed(int(seed)+1, seed))
	}
	for _, ahead := range aheads {
		l, _ := Scan(append(bytes.Clone(ahead), b...))
		if len(l) < len(all) {
			t.Errorf("behind %x: %d frames", ahead, len(l))
			continue
		}
		for i, f := range l[len(l)-len(all):] {
			f.At -= len(ahead)
			if !same(f, all[i]) {
				t.Errorf("behind %x: %v, not %v", ahead, f, all[i])
			}
		}
	}
}

// P3.4: many beginnings that tell of great lengths are gone through in their turn. This test would not end soon, if each of them were read to the end, or given room.
func TestScanManyBeginnings(t *testing.T) {
	b := bytes.Repeat(behind(1, 0, 1, 0, 0), api.MaxDisk/6)
	f := made(1, []byte("last"))
	l, gaps := Scan(append(b, f...))
	if len(l) != 1 || l[0].At != len(b) || !slices.Equal(gaps, []api.Gap{{From: 0, To: len(b)}}) {
		t.Errorf("%d frames, %d gaps", len(l), len(gaps))
	}
}

// P3.5: what is handed in stays and isn't kept; what lies behind its length is neither read nor written.
func TestHandedInStays(t *testing.T) {
	whole, all := row()
	was := bytes.Clone(whole)
	b := whole[:all[1].At+all[1].Len]
	l, _, e := Row(b)
	m, gaps := Scan(b)
	f, _ := At(b, all[0].At)
	refused(t, whole[:len(whole)-1:len(whole)], all[5].At, api.ErrShort)
	if e != api.OK || len(gaps) != 0 || !bytes.Equal(whole, was) {
		t.Errorf("%d %v", e, gaps)
	}
	clear(whole)
	if !sameAll(l, all[:2]) || !sameAll(m, all[:2]) || !same(f, all[0]) {
		t.Error("what was handed in was kept")
	}
}

// P3.5: what is answered may be written over and grown, and nothing else changes by it.
func TestAnsweredIsNew(t *testing.T) {
	b, all := row()
	was := bytes.Clone(b)
	for i := range all {
		l, _, _ := Row(b)
		m, _ := Scan(b)
		f, _ := At(b, all[i].At)
		for _, p := range [][]byte{l[i].Payload, m[i].Payload, f.Payload} {
			clear(p)
			_ = append(p, bytes.Repeat([]byte{9}, 100)...)
		}
		l[i], m[i] = all[i], all[i]
		if !sameAll(l, all) || !sameAll(m, all) || !bytes.Equal(b, was) {
			t.Errorf("%d: other things changed", i)
		}
	}
}
