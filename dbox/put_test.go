package dbox

import (
	"fmt"
	"slices"
	"strings"
	"testing"

	"pigeonhole/api"
	"pigeonhole/frame"
	"pigeonhole/record"
	"pigeonhole/vdisk"
)

const c1, c2, c3, c4 = "c001-00000001", "c001-00000002", "c001-00000003", "c001-00000004"

// refused are records that Put and Compact don't take.
func refused() []api.Rec {
	l := []api.Rec{
		{}, head(1, 1, 1, 0), seal(1), body(1), {Kind: 7, Uid: 1}, {Kind: -1, Uid: 1}, {Kind: 32},
		msg(0), msg(-1), msg(api.MaxUid + 1), gone(0), gone(api.MaxUid + 1), flag(0, 1), flag(1, 32), flag(1, -1),
		{Kind: api.RecGone, Uid: 1, Flags: 1}, {Kind: api.RecFlag, Uid: 1, Next: 1}, {Kind: api.RecMsg, Uid: 1, Body: 1, User: 1},
		{Kind: api.RecGone, Uid: 1, Data: []byte("x")},
	}
	bad := msg(1)
	bad.Size = api.MaxMsg + 1
	return append(l, bad)
}

// noRecord is a frame that tells no record.
func noRecord() string {
	b, _ := frame.Wrap(99, nil)
	return string(b)
}

// putIs puts a record, and fails, where it doesn't come to stand there.
func putIs(t *testing.T, what string, b *Box, r api.Rec, seq, from int) {
	t.Helper()
	p, e := b.Put(r)
	if want := fmt.Sprint(api.Place{Seq: seq, At: from, Rec: r}); e != api.OK || fmt.Sprint(p) != want {
		t.Errorf("%s: %v %d, not %s", what, p, e, want)
	}
	if got, e := b.Get(p); e != api.OK || !record.Same(got, r) {
		t.Errorf("%s: got %v %d", what, got, e)
	}
}

// putFails puts a record, and fails, where it isn't refused by that error.
func putFails(t *testing.T, what string, b *Box, r api.Rec, want api.Errno) {
	t.Helper()
	if p, e := b.Put(r); e != want || fmt.Sprint(p) != fmt.Sprint(api.Place{}) {
		t.Errorf("%s: %v %d, not %d", what, p, e, want)
	}
}

// P18.2: a record that is put into an empty box makes a container of a head, and stands behind that; others stand behind it.
func TestPutFirst(t *testing.T) {
	d := disk(1000)
	b := opens(t, d, 7, 1000)
	h := head(7, 1, 1, 0)
	putIs(t, "first", b, msg(5), 1, len(frames(h)))
	has(t, "first", d, 6, "c007-00000001", frames(h, msg(5)))
	is(t, "first", b, []int{1}, 6, 0, at(1, len(frames(h)), msg(5))...)
	putIs(t, "second", b, gone(2), 1, len(frames(h, msg(5))))
	putIs(t, "third", b, flag(6, 0), 1, len(frames(h, msg(5), gone(2))))
	putIs(t, "again", b, flag(6, 0), 1, len(frames(h, msg(5), gone(2), flag(6, 0))))
	l := []api.Rec{msg(5), gone(2), flag(6, 0), flag(6, 0)}
	has(t, "others", d, 12, "c007-00000001", frames(append([]api.Rec{h}, l...)...))
	is(t, "others", b, []int{1}, 7, 0, at(1, len(frames(h)), l...)...)
	if got, want := tells(opens(t, d, 7, 1)), tells(b); got != want {
		t.Errorf("%s, not %s", got, want)
	}
}

// P18.2: a container that has the bound's bytes, or more, is sealed with the next number, and one more is made, whose head tells that too; with a byte less it is neither.
func TestPutBound(t *testing.T) {
	one := frames(head(1, 1, 1, 0), msg(5))
	for bound := len(one) - 1; bound <= len(one)+1; bound++ {
		d := disk(1000)
		b := opens(t, d, 1, bound)
		puts(t, b, msg(5))
		if bound > len(one) {
			putIs(t, "below the bound", b, gone(3), 1, len(one))
			has(t, "below the bound", d, 8, c1, one+frames(gone(3)))
			continue
		}
		two := frames(head(1, 2, 6, 0))
		putIs(t, "at the bound", b, gone(9), 2, len(two))
		has(t, "at the bound", d, 14, c1, one+frames(seal(6)), c2, two+frames(gone(9)))
		is(t, "at the bound", b, []int{1, 2}, 10, 0, append(at(1, len(frames(head(1, 1, 1, 0))), msg(5)), at(2, len(two), gone(9))...)...)
	}
}

// P18.2: with a bound of one byte each record has a container of its own; the new one isn't looked at again ahead of the record.
func TestPutBoundOne(t *testing.T) {
	d := disk(1000)
	b := opens(t, d, 1, 1)
	puts(t, b, msg(1), msg(2), msg(2))
	has(t, "one each", d, 6+8+8,
		c1, frames(head(1, 1, 1, 0), msg(1), seal(2)),
		c2, frames(head(1, 2, 2, 0), msg(2), seal(3)),
		c3, frames(head(1, 3, 3, 0), msg(2)))
	if b.Last() != 3 || b.Next() != 3 || len(b.Places()) != 3 {
		t.Error(tells(b))
	}
}

// P18.2: behind a container that isn't clean, or has no bytes, one more is made, without a seal; one with a seal gets no other.
func TestPutBehind(t *testing.T) {
	for _, c := range []struct {
		what, one string
		bound     int
		next      int
	}{
		{"no bytes", "", 100, 1},
		{"no bytes, the least bound", "", 1, 1},
		{"no record", "x", 100, 1},
		{"a part of a frame behind", frames(msg(1)) + frames(msg(2))[:8], 1000, 2},
		{"a byte behind, above the bound", frames(msg(1)) + "x", 10, 2},
		{"a frame that is no record", frames(msg(1)) + noRecord(), 1000, 2},
		{"a seal, above the bound", frames(head(1, 1, 1, 0), seal(4)), 10, 4},
		{"a seal, just at the bound", frames(seal(4)), len(frames(seal(4))), 4},
		{"a seal and a byte", frames(seal(4)) + "x", 10, 4},
	} {
		d := disk(1000, c1, c.one)
		b := opens(t, d, 1, c.bound)
		two := frames(head(1, 2, c.next, 0))
		putIs(t, c.what, b, msg(1), 2, len(two))
		has(t, c.what, d, 6, c1, c.one, c2, two+frames(msg(1)))
	}
}

// P18.2: behind a container that is clean, and has room, no other is made, whatever it has; what is broken ahead of its last record, or of that one's kind, says nothing.
func TestPutRoom(t *testing.T) {
	for _, one := range []string{frames(seal(4)), "x" + frames(msg(1)), frames(body(1)), "P\x01" + frames(gone(1), head(9, 9, 9, 0))} {
		d := disk(1000, c1, one)
		putIs(t, one, opens(t, d, 1, len(one)+1), msg(3), 1, len(one))
		has(t, one, d, 2, c1, one+frames(msg(3)))
		// At the bound it is sealed, but for a seal.
		d = disk(1000, c1, one)
		b := opens(t, d, 1, len(one))
		want := one + frames(seal(b.Next()))
		if one == frames(seal(4)) {
			want = one
		}
		puts(t, b, msg(3))
		if got, _ := d.Read(c1); string(got) != want || b.Last() != 2 {
			t.Errorf("%q, not %q", got, want)
		}
	}
}

// P18.2: one more is made behind the last one, though others lack.
func TestPutGap(t *testing.T) {
	d := disk(1000, c2, "x", "c001-00000100", "")
	b := opens(t, d, 1, 10)
	puts(t, b, msg(1))
	if !slices.Equal(b.Containers(), []int{2, 100, 101}) || b.Broken() != 1 || b.Next() != 2 {
		t.Error(tells(b))
	}
	has(t, "gap", d, 6, c2, "x", "c001-00000100", "", "c001-00000101", frames(head(1, 101, 1, 0), msg(1)))
}

// P18.2: the next number goes beyond the greatest Uid, which then still has a head and a seal that are right.
func TestPutLastUid(t *testing.T) {
	d := disk(1000)
	b := opens(t, d, 1, 1)
	puts(t, b, msg(api.MaxUid), gone(api.MaxUid))
	has(t, "last Uid", d, 14,
		c1, frames(head(1, 1, 1, 0), msg(api.MaxUid), seal(api.MaxUid+1)),
		c2, frames(head(1, 2, api.MaxUid+1, 0), gone(api.MaxUid)))
	if b.Next() != api.MaxUid+1 {
		t.Error(tells(b))
	}
}

// P18.2: what is none of the three kinds, or isn't right, is refused ahead of all else, and nothing is changed.
func TestPutArguments(t *testing.T) {
	for _, one := range []string{"x", frames(msg(1))} {
		d := disk(1000, c1, one)
		b := opens(t, d, 1, 10)
		before := tells(b)
		for i, r := range refused() {
			putFails(t, fmt.Sprint(i), b, r, api.ErrArg)
		}
		has(t, "refused", d, 0, c1, one)
		if got := tells(b); got != before {
			t.Errorf("%s, not %s", got, before)
		}
		down(d)
		putFails(t, "refused without power", b, gone(0), api.ErrArg)
		putFails(t, "without power", b, gone(1), api.ErrDown)
	}
	putFails(t, "an empty box", opens(t, disk(1000), 1, 10), gone(0), api.ErrArg)
}

// P18.2: behind the container with the last number nothing is put, though it has room; ahead of it is.
func TestPutLastContainer(t *testing.T) {
	one := frames(msg(1))
	d := disk(1000, "c001-99999999", one)
	b := opens(t, d, 1, 1000)
	putFails(t, "the last number", b, msg(2), api.ErrArg)
	has(t, "the last number", d, 0, "c001-99999999", one)
	d = disk(1000, "c001-99999998", one)
	b = opens(t, d, 1, len(one)+1)
	putIs(t, "ahead of the last number", b, msg(2), 99999998, len(one))
	putIs(t, "ahead of the last number", b, msg(3), 99999999, len(frames(head(1, 99999999, 3, 0))))
	putFails(t, "the last number", b, msg(4), api.ErrArg)
}

// full is a box whose last container has as many bytes as the bound.
func full(t *testing.T, room int, more ...string) (*vdisk.Disk, *Box) {
	d := disk(room, append([]string{c1, frames(msg(1))}, more...)...)
	return d, opens(t, d, 1, 10)
}

// P18.2: the errors of the seal's Append, of Make, and of the record's Append are answered, in this order; what was done ahead of them stays done, once.
func TestPutErrors(t *testing.T) {
	one, two := frames(msg(1), seal(2)), frames(head(1, 2, 2, 0))
	for n, c := range []struct {
		e     api.Errno
		files []string
		last  int
	}{
		{api.ErrBusy, []string{c1, frames(msg(1))}, 1},
		{api.OK, []string{c1, one, c2, two + frames(gone(1))}, 2},
		{api.ErrBusy, []string{c1, one}, 1},
		{api.ErrBusy, []string{c1, one}, 1},
		{api.OK, []string{c1, one, c2, two + frames(gone(1))}, 2},
		{api.OK, []string{c1, one, c2, two + frames(gone(1))}, 2},
		{api.ErrBusy, []string{c1, one, c2, two}, 2},
		{api.OK, []string{c1, one, c2, two + frames(gone(1))}, 2},
	} {
		d, b := full(t, 1000)
		d.Fail(n, api.ErrBusy)
		if _, e := b.Put(gone(1)); e != c.e || !slices.Equal(files(d), c.files) || b.Last() != c.last || b.Next() != 2 || b.Broken() != 0 {
			t.Errorf("call %d fails: %d %q %s", n, e, files(d), tells(b))
		}
		if got, want := tells(opens(t, d, 1, 10)), tells(b); got != want {
			t.Errorf("call %d fails: %s, not %s", n, got, want)
		}
		// No second seal comes behind a first one; a container that was made already is full.
		puts(t, b, msg(7))
		if s, _ := d.Read(c1); string(s) != one {
			t.Errorf("call %d failed: %q", n, s)
		}
		if want := max(2, c.last+1); b.Last() != want || b.Next() != 8 {
			t.Errorf("call %d failed: %s", n, tells(b))
		}
	}
}

// P18.2: likewise the disk's own errors: no room, and too many files.
func TestPutNoRoom(t *testing.T) {
	one, two := frames(msg(1), seal(2)), frames(head(1, 2, 2, 0), msg(9))
	for room := len(frames(msg(1))); room <= len(one)+len(two); room++ {
		d, b := full(t, room)
		_, e := b.Put(msg(9))
		if (e == api.OK) != (room == len(one)+len(two)) || e != api.OK && e != api.ErrSpace {
			t.Errorf("room for %d: %d", room, e)
		}
		if got, want := tells(opens(t, d, 1, 10)), tells(b); got != want {
			t.Errorf("room for %d: %s, not %s", room, got, want)
		}
		if e != api.OK && (len(b.Places()) != 1 || b.Next() != 2) {
			t.Errorf("room for %d: %s", room, tells(b))
		}
	}
	var more []string
	for i := range api.MaxFiles - 1 {
		more = append(more, fmt.Sprint("f", i), "")
	}
	d, b := full(t, 1000, more...)
	putFails(t, "too many files", b, msg(2), api.ErrFull)
	d.Unlink("f0")
	puts(t, b, msg(2))
}

// P18.2: the container that is to be made may be there, though the box doesn't know it.
func TestPutThere(t *testing.T) {
	d, b := full(t, 1000)
	d.Create(c2)
	putFails(t, "there", b, msg(2), api.ErrThere)
	putFails(t, "still there", b, msg(2), api.ErrThere)
	if s := strings.Join(files(d), ""); s != c1+frames(msg(1), seal(2))+c2 {
		t.Errorf("%q", s)
	}
	b = opens(t, d, 1, 10)
	puts(t, b, msg(2))
	if b.Last() != 3 {
		t.Error(tells(b))
	}
	// It says nothing to a container that has room.
	d = disk(1000, c1, frames(msg(1)))
	b = opens(t, d, 1, 1000)
	d.Create(c2)
	putIs(t, "room", b, msg(2), 1, len(frames(msg(1))))
}

// P18.2: the last container is looked at as it is now: what came behind its bytes since says whether it is clean, has the bound's bytes, or a seal.
func TestPutLooks(t *testing.T) {
	one := frames(head(1, 1, 1, 0), msg(1))
	for _, c := range []struct {
		behind string
		bound  int
		seq    int
		sealed string
	}{
		{"x", 1000, 2, ""},
		{frames(msg(8))[:7], 1000, 2, ""},
		{frames(msg(8)), 1000, 1, ""},
		{"x" + frames(msg(8)), 1000, 1, ""},
		{frames(msg(8)), len(one) + 1, 2, frames(seal(2))},
		{frames(seal(2)), len(one) + 1, 2, ""},
		{frames(seal(2)), 1000, 1, ""},
		{frames(body(2)) + "P", 1, 2, ""},
	} {
		d := disk(1000)
		b := opens(t, d, 1, c.bound)
		puts(t, b, msg(1))
		d.Append(c1, []byte(c.behind))
		p, e := b.Put(gone(1))
		if e != api.OK || p.Seq != c.seq || b.Broken() != 0 || b.Next() != 2 || len(b.Places()) != 2 {
			t.Errorf("%q: %v %d %s", c.behind, p, e, tells(b))
		}
		want := one + c.behind + c.sealed
		if c.seq == 1 {
			want += frames(gone(1))
		}
		if s, _ := d.Read(c1); string(s) != want {
			t.Errorf("%q: %q, not %q", c.behind, s, want)
		}
		if r, e := b.Get(p); e != api.OK || !record.Same(r, gone(1)) {
			t.Errorf("%q: %v %d", c.behind, r, e)
		}
	}
	d := disk(1000)
	b := opens(t, d, 1, 1000)
	puts(t, b, msg(1))
	d.Pwrite(c1, len(one)-1, []byte("\xff"))
	putIs(t, "the last record's last byte", b, msg(2), 2, len(frames(head(1, 2, 2, 0))))
	d.Unlink(c2)
	putIs(t, "no file", b, msg(3), 3, len(frames(head(1, 3, 3, 0))))
}

// P18.3: Get answers the record that stands there now, whatever else the place tells.
func TestGet(t *testing.T) {
	d := disk(1000)
	b := opens(t, d, 1, 70)
	l := []api.Rec{msg(1), gone(1), flag(3, 4), msg(4), gone(9)}
	puts(t, b, l...)
	if b.Last() != 3 {
		t.Fatal(tells(b))
	}
	for i, p := range b.Places() {
		p.Rec = api.Rec{Kind: 99, Data: []byte("x")}
		if r, e := b.Get(p); e != api.OK || fmt.Sprint(r) != fmt.Sprint(l[i]) {
			t.Errorf("%v: %v %d", p, r, e)
		}
	}
	p := b.Places()[0]
	for _, now := range []api.Rec{flag(7, 1), seal(8), body(1), head(2, 2, 2, 2)} {
		d.Pwrite(c1, p.At, []byte(frames(now)))
		if r, e := b.Get(p); e != api.OK || !record.Same(r, now) {
			t.Errorf("%v: %v %d", now, r, e)
		}
	}
	if b.Next() != 10 || fmt.Sprint(b.Places()[0].Rec) != fmt.Sprint(msg(1)) {
		t.Error(tells(b))
	}
	// What is answered is new memory.
	d.Pwrite(c1, p.At, []byte(frames(body(1))))
	r, _ := b.Get(p)
	r.Data[0] = 'x'
	if again, _ := b.Get(p); !record.Same(again, body(1)) {
		t.Errorf("%v", again)
	}
}

// P18.3: the error of reading the file comes first, then ErrNone, where the box has no such place, then ErrBroken.
func TestGetErrors(t *testing.T) {
	d := disk(1000)
	b := opens(t, d, 1, 1000)
	puts(t, b, msg(1), msg(2))
	d.Create(c2)
	first, second := b.Places()[0], b.Places()[1]
	got := func(what string, p api.Place, want api.Errno) {
		t.Helper()
		if r, e := b.Get(p); e != want || fmt.Sprint(r) != fmt.Sprint(api.Rec{}) {
			t.Errorf("%s: %v %d, not %d", what, r, e, want)
		}
	}
	for _, p := range []api.Place{
		{}, {Seq: 1}, {Seq: 1, At: first.At + 1}, {Seq: 1, At: first.At - 1}, {Seq: 1, At: -1}, {Seq: 1, At: 1 << 62},
		{Seq: 2, At: first.At}, {Seq: 3, At: first.At}, {Seq: -1, At: first.At}, {Seq: 100000000, At: first.At}, {Seq: 1 << 62},
	} {
		got(fmt.Sprint(p), p, api.ErrNone)
	}
	d.Append(c1, []byte(frames(msg(3))))
	got("not put by the box", api.Place{Seq: 1, At: second.At + len(frames(msg(2)))}, api.ErrNone)
	for _, broken := range []string{"x", "Px", "P\x02\x00\x00\x00\x00", "P\x63"} {
		d.Pwrite(c1, first.At, []byte(broken))
		got("broken", first, api.ErrBroken)
		if _, e := b.Get(second); e != api.OK {
			t.Errorf("the other one: %d", e)
		}
	}
	// A frame that tells no record is none.
	d.Pwrite(c1, first.At, []byte(noRecord()))
	got("no record", first, api.ErrBroken)
	d.Rename(c2, c1)
	got("behind the end", first, api.ErrBroken)
	d.Unlink(c1)
	got("no file", first, api.ErrNone)
	down(d)
	got("without power", first, api.ErrDown)
	got("without power, no place", api.Place{}, api.ErrDown)
}

// P18.5: what is handed in stays, and isn't kept.
func TestPutHandedIn(t *testing.T) {
	d := disk(1000)
	b := opens(t, d, 1, 1000)
	memory := []byte("xyz")
	r := gone(4)
	r.Data = memory[:0]
	p, e := b.Put(r)
	if e != api.OK || p.Rec.Data != nil || string(memory) != "xyz" {
		t.Errorf("%v %d %q", p, e, memory)
	}
	if _ = append(b.Places()[0].Rec.Data, 'p'); string(memory) != "xyz" {
		t.Errorf("%q", memory)
	}
	l := []api.Rec{r, msg(5)}
	if e := b.Compact(l[:1]); e != api.OK || !record.Same(l[1], msg(5)) || string(memory) != "xyz" {
		t.Errorf("%d %v", e, l)
	}
	l[0] = msg(9)
	if _ = append(b.Places()[0].Rec.Data, 'c'); string(memory) != "xyz" || b.Places()[0].Rec.Uid != 4 {
		t.Errorf("%q %s", memory, tells(b))
	}
}
