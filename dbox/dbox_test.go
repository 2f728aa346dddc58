package dbox

import (
	"fmt"
	"math"
	"slices"
	"strings"
	"testing"

	"pigeonhole/api"
	"pigeonhole/record"
	"pigeonhole/vdisk"
)

func head(user, seq, next, base int) api.Rec {
	return api.Rec{Kind: api.RecHead, User: user, Seq: seq, Next: next, Base: base}
}

func msg(uid int) api.Rec {
	return api.Rec{Kind: api.RecMsg, Uid: uid, Time: 5, Body: 1, Size: 3, Origin: 7}
}

func gone(uid int) api.Rec {
	return api.Rec{Kind: api.RecGone, Uid: uid}
}

func flag(uid, flags int) api.Rec {
	return api.Rec{Kind: api.RecFlag, Uid: uid, Flags: flags}
}

func seal(next int) api.Rec {
	return api.Rec{Kind: api.RecSeal, Next: next}
}

func body(n int) api.Rec {
	return api.Rec{Kind: api.RecBody, Body: n, Data: []byte("PQ")}
}

// frames is those of records, one behind the other.
func frames(l ...api.Rec) string {
	s := ""
	for _, r := range l {
		b, e := record.Frame(r)
		if e != api.OK {
			panic(fmt.Sprintf("%v: %d", r, e))
		}
		s += string(b)
	}
	return s
}

// disk is a disk with files, told as name and bytes in turn.
func disk(room int, told ...string) *vdisk.Disk {
	var l []api.File
	for i := 0; i < len(told); i += 2 {
		l = append(l, api.File{Name: told[i], Data: []byte(told[i+1])})
	}
	d := vdisk.New(l, room)
	if d == nil {
		panic("no disk")
	}
	return d
}

// down lets the power of a disk go.
func down(d *vdisk.Disk) *vdisk.Disk {
	d.Crash(0)
	d.SyncDir()
	return d
}

// files tells all files of a disk, as disk takes them.
func files(d *vdisk.Disk) []string {
	var l []string
	for _, n := range d.Names() {
		b, _ := d.Read(n)
		l = append(l, n, string(b))
	}
	return l
}

// has fails, where a disk hasn't just these files, or something of it isn't sure, or so many calls weren't made.
func has(t *testing.T, what string, d *vdisk.Disk, calls int, told ...string) {
	t.Helper()
	if l := files(d); !slices.Equal(l, told) {
		t.Errorf("%s: files %q, not %q", what, l, told)
	}
	if d.Calls() != calls {
		t.Errorf("%s: %d calls, not %d", what, d.Calls(), calls)
	}
	if turns, writes := d.Waits(); turns != 0 || writes != 0 {
		t.Errorf("%s: %d turns and %d writes wait", what, turns, writes)
	}
}

// opens is the box of a user that can be opened.
func opens(t *testing.T, d *vdisk.Disk, user, bound int) *Box {
	t.Helper()
	b, e := Open(d, user, bound)
	if b == nil || e != api.OK {
		t.Fatalf("Open: %v %d", b != nil, e)
	}
	return b
}

// puts puts records that can be put.
func puts(t *testing.T, b *Box, l ...api.Rec) {
	t.Helper()
	for _, r := range l {
		if _, e := b.Put(r); e != api.OK {
			t.Fatalf("Put of %v: %d", r, e)
		}
	}
}

// tells is all that a box tells.
func tells(b *Box) string {
	return fmt.Sprint(b.Containers(), b.Last(), b.Next(), b.Broken(), b.Places())
}

// is fails, where a box doesn't tell this.
func is(t *testing.T, what string, b *Box, containers []int, next, broken int, places ...api.Place) {
	t.Helper()
	last := 0
	for _, n := range containers {
		last = n
	}
	want := fmt.Sprint(containers, last, next, broken, places)
	if got := tells(b); got != want {
		t.Errorf("%s: %s, not %s", what, got, want)
	}
}

// at is places of a container, from a place on, of records that stand there one behind the other.
func at(seq, from int, l ...api.Rec) []api.Place {
	var places []api.Place
	for _, r := range l {
		places = append(places, api.Place{Seq: seq, At: from, Rec: r})
		from += len(frames(r))
	}
	return places
}

// P18.1: a name has the user's number in three digits, and the container's in eight.
func TestName(t *testing.T) {
	for _, c := range []struct {
		user, seq int
		want      string
	}{
		{7, 1, "c007-00000001"},
		{1, 1, "c001-00000001"},
		{12, 345, "c012-00000345"},
		{999, 99999999, "c999-99999999"},
		{100, 10000000, "c100-10000000"},
		{0, 1, ""}, {-1, 1, ""}, {1000, 1, ""}, {math.MinInt, 1, ""}, {math.MaxInt, 1, ""},
		{1, 0, ""}, {1, -1, ""}, {1, 100000000, ""}, {1, math.MinInt, ""}, {1, math.MaxInt, ""},
		{0, 0, ""},
	} {
		if got := Name(c.user, c.seq); got != c.want {
			t.Errorf("%d %d: %q, not %q", c.user, c.seq, got, c.want)
		}
	}
}

// P18.1, P18.4: a box of no container has nothing, and 1 as its next number; nothing is made.
func TestOpenNone(t *testing.T) {
	for _, c := range [][2]int{{1, 1}, {999, math.MaxInt}, {7, 150}} {
		d := disk(100, "c0070-x", "", "c07-00000001", "P")
		is(t, "none", opens(t, d, c[0], c[1]), nil, 1, 0)
		has(t, "none", d, 0, "c0070-x", "", "c07-00000001", "P")
	}
}

// P18.1: ErrDown is looked for ahead of ErrArg, and ErrArg ahead of all that would change the disk.
func TestOpenArguments(t *testing.T) {
	for _, c := range [][2]int{{0, 1}, {-1, 1}, {1000, 1}, {math.MinInt, 1}, {math.MaxInt, 1}, {1, 0}, {1, -1}, {1, math.MinInt}, {0, 0}} {
		d := disk(100, "c000-x.n", "", "c001-x.n", "")
		if b, e := Open(d, c[0], c[1]); b != nil || e != api.ErrArg {
			t.Errorf("%v: %v %d", c, b != nil, e)
		}
		has(t, "argument", d, 0, "c000-x.n", "", "c001-x.n", "")
		if b, e := Open(down(d), c[0], c[1]); b != nil || e != api.ErrDown {
			t.Errorf("%v without power: %v %d", c, b != nil, e)
		}
	}
	if b, e := Open(down(disk(100)), 1, 1); b != nil || e != api.ErrDown {
		t.Errorf("without power: %v %d", b != nil, e)
	}
}

// P18.1: what a swap left behind of this user's containers is tidied away, ahead of what is looked for behind it.
func TestOpenTidy(t *testing.T) {
	d := disk(100, "c001-.n", "", "c001-00000002.n", "x", "c0010.n", "", "c002-00000001.n", "", "x001.n", "")
	is(t, "tidy", opens(t, d, 1, 10), nil, 1, 0)
	d.SyncDir()
	has(t, "tidy", d, 3, "c0010.n", "", "c002-00000001.n", "", "x001.n", "")
	d = disk(100, "c001-00000002.n", "x", "c001-x", "")
	d.Fail(0, api.ErrBusy)
	if b, e := Open(d, 1, 10); b != nil || e != api.ErrBusy {
		t.Errorf("Tidy fails: %v %d", b != nil, e)
	}
	has(t, "Tidy fails", d, 1, "c001-00000002.n", "x", "c001-x", "")
	d.Crash(0)
	if b, e := Open(d, 1, 10); b != nil || e != api.ErrDown {
		t.Errorf("the power goes: %v %d", b != nil, e)
	}
}

// P18.1: a name that begins as a container's, and is none, is refused, ahead of what would be dropped; one of another user isn't looked at.
func TestOpenBroken(t *testing.T) {
	for _, name := range []string{"c001-", "c001-x", "c001-1", "c001-00000000", "c001-0000001", "c001-000000001", "c001-100000000", "c001-0000000a", "c001-00000001.", "c001-00000001.n.x", "c001--0000001", "c001-00000001-", "c001-0000000.", "c001-n", "c001-99999999999999999999"} {
		told := []string{"c001-00000001", "", "c001-00000002", frames(head(1, 2, 1, 2)), name, ""}
		d := disk(100, told...)
		if b, e := Open(d, 1, 10); b != nil || e != api.ErrBroken {
			t.Errorf("%q: %v %d", name, b != nil, e)
		}
		if d.Calls() != 0 || len(d.Names()) != 3 {
			t.Errorf("%q: %q", name, d.Names())
		}
		is(t, name, opens(t, d, 2, 10), nil, 1, 0)
	}
	d := disk(100, "c001", "", "c01-x", "", "c0011-x", "", "d001-x", "", "xc001-x", "", ".c001-x", "")
	is(t, "names of others", opens(t, d, 1, 10), nil, 1, 0)
}

// P18.1, P18.4: what stands in the containers is told, container by container: places of the three kinds, and what is broken.
func TestOpenFinds(t *testing.T) {
	one := frames(head(1, 1, 1, 0)) + "xy" + frames(msg(1), body(4), gone(1)) + frames(msg(9))[:9]
	three := frames(flag(2, 31)) + "z"
	d := disk(1000, "c001-00000001", one, "c001-00000003", three, "c001-00000012", "", "c002-00000002", frames(msg(20)))
	b := opens(t, d, 1, 10)
	from := len(frames(head(1, 1, 1, 0))) + 2
	places := at(1, from, msg(1))
	places = append(places, at(1, from+len(frames(msg(1), body(4))), gone(1))...)
	places = append(places, at(3, 0, flag(2, 31))...)
	is(t, "found", b, []int{1, 3, 12}, 3, 2+9+1, places...)
	has(t, "found", d, 0, "c001-00000001", one, "c001-00000003", three, "c001-00000012", "", "c002-00000002", frames(msg(20)))
	is(t, "another user", opens(t, d, 2, 10), []int{2}, 21, 0, at(2, 0, msg(20))...)
}

// P18.1, P18.4: the next number is the greatest of 1, the Nexts of heads and seals, and one more than each Uid.
func TestOpenNext(t *testing.T) {
	for _, c := range []struct {
		l    []api.Rec
		want int
	}{
		{nil, 1},
		{[]api.Rec{body(9)}, 1},
		{[]api.Rec{head(1, 9, 1, 1)}, 1},
		{[]api.Rec{head(1, 1, 5, 0)}, 5},
		{[]api.Rec{seal(5)}, 5},
		{[]api.Rec{msg(5)}, 6},
		{[]api.Rec{gone(5)}, 6},
		{[]api.Rec{flag(5, 0)}, 6},
		{[]api.Rec{seal(7), msg(5), head(1, 1, 6, 0)}, 7},
		{[]api.Rec{msg(7), seal(5), msg(5)}, 8},
		{[]api.Rec{gone(api.MaxUid)}, api.MaxUid + 1},
		{[]api.Rec{seal(api.MaxUid + 1)}, api.MaxUid + 1},
	} {
		d := disk(1000, "c001-00000001", frames(c.l...))
		if b := opens(t, d, 1, 10); b.Next() != c.want {
			t.Errorf("%v: %d, not %d", c.l, b.Next(), c.want)
		}
		d = disk(1000, "c001-00000001", frames(c.l...), "c001-00000002", frames(msg(3)))
		if b := opens(t, d, 1, 10); b.Next() != max(4, c.want) {
			t.Errorf("%v and 3: %d", c.l, b.Next())
		}
	}
}

// P18.1: the base is the greatest that any head tells, wherever it stands; containers below it are dropped, and tell nothing.
func TestOpenBase(t *testing.T) {
	for _, c := range []struct {
		what       string
		one, three []api.Rec
		containers []int
		next       int
	}{
		{"none", []api.Rec{head(1, 1, 1, 0), msg(8)}, []api.Rec{head(1, 3, 1, 0), msg(2)}, []int{1, 2, 3}, 9},
		{"below all", []api.Rec{msg(8)}, []api.Rec{head(1, 3, 1, 1), msg(2)}, []int{1, 2, 3}, 9},
		{"between", []api.Rec{msg(8)}, []api.Rec{head(1, 3, 1, 2), msg(2)}, []int{2, 3}, 5},
		{"the last one", []api.Rec{msg(8)}, []api.Rec{head(1, 3, 7, 3), msg(2)}, []int{3}, 7},
		{"above all", []api.Rec{msg(8)}, []api.Rec{head(1, 3, 7, 4), msg(2)}, nil, 1},
		{"far above all", []api.Rec{msg(8)}, []api.Rec{head(1, 3, 7, api.MaxUid)}, nil, 1},
		{"in an elder one", []api.Rec{head(1, 1, 9, 3), msg(8)}, []api.Rec{msg(2)}, []int{3}, 3},
		{"in the midst", []api.Rec{msg(8), head(1, 1, 1, 2)}, []api.Rec{msg(2), head(1, 3, 1, 3), msg(3)}, []int{3}, 4},
		{"of another user", nil, []api.Rec{head(9, 9, 1, 3), msg(2)}, []int{3}, 3},
	} {
		d := disk(1000, "c001-00000001", frames(c.one...)+"x", "c001-00000002", frames(msg(4))+"xy", "c001-00000003", frames(c.three...)+"xyz")
		b := opens(t, d, 1, 10)
		broken := 0
		for _, n := range c.containers {
			broken += n
		}
		if !slices.Equal(b.Containers(), c.containers) || b.Next() != c.next || b.Broken() != broken {
			t.Errorf("%s: %s", c.what, tells(b))
		}
		for _, p := range b.Places() {
			if !slices.Contains(c.containers, p.Seq) {
				t.Errorf("%s: %v", c.what, p)
			}
		}
		if len(d.Names()) != len(c.containers) || d.Calls() != 2*(3-len(c.containers)) {
			t.Errorf("%s: %q, %d calls", c.what, d.Names(), d.Calls())
		}
		if again := opens(t, d, 1, 10); tells(again) != tells(b) {
			t.Errorf("%s: %s, not %s", c.what, tells(again), tells(b))
		}
	}
}

// P18.1: containers below the base are dropped by rising numbers; an error of that ends it, and is answered.
func TestOpenDropErrors(t *testing.T) {
	three := frames(head(1, 3, 1, 3))
	for n, want := range []struct {
		e     api.Errno
		names string
	}{
		{api.ErrBusy, "c001-00000001 c001-00000002 c001-00000003"},
		{api.OK, "c001-00000003"},
		{api.ErrBusy, "c001-00000002 c001-00000003"},
		{api.OK, "c001-00000003"},
	} {
		d := disk(100, "c001-00000001", "", "c001-00000002", "", "c001-00000003", three)
		d.Fail(n, api.ErrBusy)
		b, e := Open(d, 1, 10)
		if e != want.e || (b != nil) != (e == api.OK) || strings.Join(d.Names(), " ") != want.names {
			t.Errorf("call %d fails: %v %d %q", n, b != nil, e, d.Names())
		}
		is(t, "again", opens(t, d, 1, 10), []int{3}, 1, 0)
		d = disk(100, "c001-00000001", "", "c001-00000002", "", "c001-00000003", three)
		d.Crash(n)
		if b, e := Open(d, 1, 10); b != nil || e != api.ErrDown {
			t.Errorf("the power goes with call %d: %v %d", n, b != nil, e)
		}
		d.Boot(0, nil)
		is(t, "behind it", opens(t, d, 1, 10), []int{3}, 1, 0)
	}
}

// P18.5: what is answered is new memory: it may be written over and grown, and nothing else changes by it.
func TestAnswersAreNew(t *testing.T) {
	b := opens(t, disk(1000), 1, 60)
	puts(t, b, msg(1), msg(2), msg(3))
	before := tells(b)
	places, containers := b.Places(), b.Containers()
	_, _ = append(places[:1], api.Place{Seq: 9, At: 9}), append(containers[:1], 9)
	for i := range places {
		places[i] = api.Place{Seq: 9, At: 9}
	}
	for i := range containers {
		containers[i] = 9
	}
	if got := tells(b); got != before {
		t.Errorf("%s, not %s", got, before)
	}
	puts(t, b, msg(4))
	if places[0].Seq != 9 || containers[0] != 9 {
		t.Error("what was answered was written over")
	}
}
