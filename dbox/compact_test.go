package dbox

import (
	"fmt"
	"slices"
	"testing"

	"pigeonhole/api"
	"pigeonhole/vdisk"
)

// three is a box of three containers, of which one has broken bytes, on a disk with a file beside them.
func three(t *testing.T) (*vdisk.Disk, *Box) {
	d := disk(1000, c1, frames(msg(1)), c2, "x"+frames(msg(2)), c3, frames(msg(3), gone(2)), "c002-00000001", "x")
	return d, opens(t, d, 1, 1000)
}

// P18.3: Compact puts a container in the place of all, whose head tells the next number and itself as the base; the elder ones go.
func TestCompact(t *testing.T) {
	for _, l := range [][]api.Rec{nil, {}, {msg(3)}, {msg(3), msg(1), flag(1, 2), gone(3), msg(3)}, {gone(8)}} {
		d, b := three(t)
		if e := b.Compact(l); e != api.OK {
			t.Fatalf("%v: %d", l, e)
		}
		h := head(1, 4, 4, 4)
		has(t, fmt.Sprint(l), d, 5+3*2, c4, frames(append([]api.Rec{h}, l...)...), "c002-00000001", "x")
		next := 4
		if len(l) == 1 && l[0].Uid == 8 {
			next = 9
		}
		is(t, fmt.Sprint(l), b, []int{4}, next, 0, at(4, len(frames(h)), l...)...)
		if got, want := tells(opens(t, d, 1, 1000)), tells(b); got != want {
			t.Errorf("%v: %s, not %s", l, got, want)
		}
		for _, p := range b.Places() {
			if r, e := b.Get(p); e != api.OK || fmt.Sprint(r) != fmt.Sprint(p.Rec) {
				t.Errorf("%v: %v %d", l, r, e)
			}
		}
	}
}

// P18.3: an empty box gets a container too; what is put behind it comes to stand in that one, and a second time the number goes on.
func TestCompactAgain(t *testing.T) {
	d := disk(1000)
	b := opens(t, d, 1, 1000)
	if e := b.Compact([]api.Rec{msg(6)}); e != api.OK {
		t.Fatal(e)
	}
	has(t, "an empty box", d, 5, c1, frames(head(1, 1, 1, 1), msg(6)))
	putIs(t, "behind it", b, gone(6), 1, len(frames(head(1, 1, 1, 1), msg(6))))
	if e := b.Compact(nil); e != api.OK {
		t.Fatal(e)
	}
	has(t, "again", d, 5+2+5+2, c2, frames(head(1, 2, 7, 2)))
	is(t, "again", b, []int{2}, 7, 0)
	putIs(t, "behind it", b, msg(7), 2, len(frames(head(1, 2, 7, 2))))
	is(t, "opened", opens(t, d, 1, 1000), []int{2}, 8, 0, at(2, len(frames(head(1, 2, 7, 2))), msg(7))...)
}

// P18.3: what Put would refuse is refused, wherever it stands, and so is all behind the last number; nothing is changed.
func TestCompactArguments(t *testing.T) {
	for i, r := range refused() {
		for _, l := range [][]api.Rec{{r}, {msg(1), msg(2), r}, {r, msg(1)}} {
			d, b := three(t)
			before, was := tells(b), files(d)
			if e := b.Compact(l); e != api.ErrArg || tells(b) != before {
				t.Errorf("%d: %d %s", i, e, tells(b))
			}
			has(t, fmt.Sprint(i), d, 0, was...)
			down(d)
			if e := b.Compact(l); e != api.ErrArg {
				t.Errorf("%d without power: %d", i, e)
			}
		}
	}
	d := disk(1000, "c001-99999999", frames(msg(1)))
	if e := opens(t, d, 1, 1000).Compact(nil); e != api.ErrArg {
		t.Errorf("the last number: %d", e)
	}
	has(t, "the last number", d, 0, "c001-99999999", frames(msg(1)))
	d = disk(1000, "c001-99999998", frames(msg(1)))
	b := opens(t, d, 1, 1000)
	if e := b.Compact(nil); e != api.OK || b.Last() != 99999999 {
		t.Errorf("ahead of the last number: %d %s", e, tells(b))
	}
	if e := b.Compact(nil); e != api.ErrArg {
		t.Errorf("at the last number: %d", e)
	}
}

// lists is records whose container has so many bytes in all.
func lists(t *testing.T, n int) []api.Rec {
	t.Helper()
	short, long := gone(1), gone(1)
	for len(frames(long)) != len(frames(short))+1 {
		long.Uid++
	}
	n -= len(frames(head(1, 1, 1, 1)))
	k := len(frames(short))
	l := make([]api.Rec, n/k)
	for i := range l {
		l[i] = short
		if i < n%k {
			l[i] = long
		}
	}
	return l
}

// P18.3: a container may have just as many bytes as a disk; one more is ErrLarge, ahead of what the disk says, and behind ErrArg.
func TestCompactLarge(t *testing.T) {
	most := lists(t, api.MaxDisk)
	d := disk(api.MaxDisk)
	b := opens(t, d, 1, 1)
	if e := b.Compact(most); e != api.OK || len(b.Places()) != len(most) {
		t.Fatalf("%d: %d places", e, len(b.Places()))
	}
	if n, _ := d.Size(c1); n != api.MaxDisk {
		t.Errorf("%d bytes", n)
	}
	for _, l := range [][]api.Rec{lists(t, api.MaxDisk+1), append(most, msg(1))} {
		d := disk(100, c1, "")
		b := opens(t, d, 1, 1)
		if e := b.Compact(l); e != api.ErrLarge {
			t.Errorf("%d", e)
		}
		has(t, "too large", d, 0, c1, "")
		down(d)
		if e := b.Compact(l); e != api.ErrLarge {
			t.Errorf("without power: %d", e)
		}
		if e := b.Compact(append(l, gone(0))); e != api.ErrArg {
			t.Errorf("and not right: %d", e)
		}
	}
	d = disk(100, c1, "")
	if e := opens(t, d, 1, 1).Compact(most); e != api.ErrSpace {
		t.Errorf("no room: %d", e)
	}
}

// P18.3: the error of Swap is answered, and all is as it was; that of a Drop ends the dropping, and isn't told.
func TestCompactErrors(t *testing.T) {
	swapped := func(left ...string) []string { return append(left, c4, "c002-00000001") }
	for n, c := range []struct {
		e     api.Errno
		names []string
	}{
		{api.ErrBusy, []string{c1, c2, c3, "c002-00000001"}},
		{api.ErrBusy, []string{c1, c2, c3, "c002-00000001"}},
		{api.OK, swapped()},
		{api.ErrBusy, []string{c1, c2, c3, "c002-00000001"}},
		{api.OK, swapped()},
		{api.OK, swapped(c1, c2, c3)},
		{api.OK, swapped()},
		{api.OK, swapped(c2, c3)},
		{api.OK, swapped()},
		{api.OK, swapped(c3)},
		{api.OK, swapped()},
	} {
		d, b := three(t)
		before := tells(b)
		d.Fail(n, api.ErrBusy)
		if e := b.Compact([]api.Rec{msg(2)}); e != c.e || !slices.Equal(d.Names(), c.names) {
			t.Errorf("call %d fails: %d %q", n, e, d.Names())
		}
		if c.e != api.OK && tells(b) != before {
			t.Errorf("call %d fails: %s, not %s", n, tells(b), before)
		}
		if c.e == api.OK {
			is(t, fmt.Sprint("call ", n, " fails"), b, []int{4}, 4, 0, at(4, len(frames(head(1, 4, 4, 4))), msg(2))...)
		}
		if got, want := tells(opens(t, d, 1, 1000)), tells(b); got != want {
			t.Errorf("call %d fails: %s, not %s", n, got, want)
		}
		if want := max(1, len(b.Containers())); len(d.Names()) != want+1 {
			t.Errorf("call %d failed: %q", n, d.Names())
		}
	}
}

// P18.3: what stands in the way of the new container, as one that was cut off may, gives way to it.
func TestCompactOver(t *testing.T) {
	d, b := three(t)
	d.Create(c4)
	d.Append(c4, []byte("a part of a head"))
	d.Create(c4 + ".n")
	if e := b.Compact([]api.Rec{msg(2)}); e != api.OK {
		t.Fatal(e)
	}
	is(t, "over", b, []int{4}, 4, 0, at(4, len(frames(head(1, 4, 4, 4))), msg(2))...)
	has(t, "over", d, 3+6+6, c4, frames(head(1, 4, 4, 4), msg(2)), "c002-00000001", "x")
}
