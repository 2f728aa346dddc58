package index

import (
	"fmt"
	"math"
	"slices"
	"strings"
	"testing"

	"pigeonhole/api"
	"pigeonhole/record"
	"pigeonhole/vdisk"
)

// P21.3: Deliver puts a record into the box, and a transaction of the item of the use behind those of the log; then the message is there.
func TestDeliver(t *testing.T) {
	d := disk(2000)
	x := opens(t, d)
	delivers(t, x, msg(1, 3))
	log := [][]string{tx(used(0, 0, 1)), tx(used(3, 1, 2))}
	has(t, "one", d, 9, 4+2+2, c1, frames(head(1, 1, 1, 0), msg(1, 3)), x1, txs(log...))
	is(t, "one", x, 2, lists(msg(1, 3)))
	delivers(t, x, with(msg(2, 0), 31))
	log = append(log, tx(used(3, 2, 3)))
	has(t, "two", d, 17, 2+2, c1, frames(head(1, 1, 1, 0), msg(1, 3), with(msg(2, 0), 31)), x1, txs(log...))
	is(t, "two", x, 3, lists(msg(1, 3), with(msg(2, 0), 31)))
	if x.Behind() {
		t.Error("behind")
	}
	is(t, "opened again", opens(t, d), 3, lists(msg(1, 3), with(msg(2, 0), 31)))
	if d.Calls() != 21 {
		t.Errorf("%d calls", d.Calls())
	}
}

// P21.3: the least and the greatest of each field come to the mailbox; one beyond is ErrArg, and changes nothing.
func TestDeliverArguments(t *testing.T) {
	least := [5]int{0, 0, 1, 0, 0}
	most := [5]int{api.MaxTime, 31, api.MaxUid, api.MaxMsg, 1 << 53}
	deliver := func(x *Index, a [5]int) (int, api.Errno) { return x.Deliver(a[0], a[1], a[2], a[3], a[4]) }
	for _, a := range [][5]int{least, most} {
		x := opens(t, disk(2000))
		n, e := deliver(x, a)
		want := api.Entry{Uid: 1, Time: a[0], Flags: a[1], Body: a[2], Size: a[3], Origin: a[4]}
		if got, ok := x.Get(1); n != 1 || e != api.OK || got != want || !ok {
			t.Errorf("%v: %d %d %v", a, n, e, got)
		}
	}
	for i := range 5 {
		for _, v := range []int{least[i] - 1, most[i] + 1, math.MinInt, math.MaxInt} {
			a := least
			a[i] = v
			d := disk(2000)
			x := opens(t, d)
			before, was := tells(x), files(d)
			if n, e := deliver(x, a); n != 0 || e != api.ErrArg || tells(x) != before || x.Behind() {
				t.Errorf("%v: %d %d", a, n, e)
			}
			has(t, fmt.Sprint(a), d, 9, 0, was...)
			down(d)
			if n, e := deliver(x, a); n != 0 || e != api.ErrArg {
				t.Errorf("%v without power: %d %d", a, n, e)
			}
		}
	}
}

// P21.3: behind the greatest number there is none.
func TestDeliverNumbers(t *testing.T) {
	x := opens(t, disk(2000, c1, frames(head(1, 1, api.MaxUid, 0))))
	if n, e := x.Deliver(0, 0, 1, 5, 0); n != api.MaxUid || e != api.OK {
		t.Errorf("the last one: %d %d", n, e)
	}
	if n, e := x.Deliver(0, 0, 1, 5, 0); n != 0 || e != api.ErrArg || x.Next() != api.MaxUid+1 {
		t.Errorf("behind it: %d %d", n, e)
	}
	must(t, x.Flag(api.MaxUid, 3), x.Expunge(api.MaxUid))
	x = opens(t, disk(2000, "c001-99999999", frames(msg(3, 3))))
	if n, e := x.Deliver(0, 0, 1, 5, 0); n != 0 || e != api.ErrArg {
		t.Errorf("the last container: %d %d", n, e)
	}
	if e := x.Expunge(3); e != api.ErrArg {
		t.Errorf("the last container: %d", e)
	}
	if e := x.Compact(); e != api.ErrArg {
		t.Errorf("the last container: %d", e)
	}
	is(t, "the last container", x, 4, lists(msg(3, 3)))
}

// three is an index with three messages, in step, and its disk; the second one has the flags 6 by the log.
func three(t *testing.T) (*vdisk.Disk, *Index) {
	t.Helper()
	d := disk(4000)
	x := opens(t, d)
	for uid := range 3 {
		delivers(t, x, msg(uid+1, uid+5))
	}
	must(t, x.Flag(2, 6))
	return d, x
}

// all3 are the messages of three.
func all3() []api.Rec {
	return lists(msg(1, 5), with(msg(2, 6), 6), msg(3, 7))
}

// P21.3: Expunge puts a record into the box, and a transaction of the item of the use into the log; a message that isn't there, or is gone, is ErrNone, whether there is power or not.
func TestExpunge(t *testing.T) {
	d, x := three(t)
	calls, was := d.Calls(), files(d)
	must(t, x.Expunge(2))
	box := frames(head(1, 1, 1, 0), msg(1, 5), msg(2, 6), msg(3, 7), gone(2))
	log := txs(tx(used(0, 0, 1)), tx(used(5, 1, 2)), tx(used(11, 2, 3)), tx(used(18, 3, 4)), tx(used(18, 3, 4), flagged(2, 6)), tx(used(12, 2, 4)))
	has(t, "2", d, calls, 4, c1, box, x1, log)
	if !strings.HasPrefix(log, was[3]) {
		t.Error("the log was rotated")
	}
	is(t, "2", x, 4, all3(), 2)
	if x.Behind() {
		t.Error("behind")
	}
	is(t, "opened again", opens(t, d), 4, all3(), 2)
	for range 2 {
		for _, uid := range []int{2, 0, -1, 4, api.MaxUid, api.MaxUid + 1, math.MaxInt, math.MinInt} {
			if e := x.Expunge(uid); e != api.ErrNone {
				t.Errorf("%d: %d", uid, e)
			}
		}
		has(t, "none", d, calls, 4, files(d)...)
		if d.Down() {
			break
		}
		down(d)
		calls++
		if e := x.Expunge(1); e != api.ErrDown {
			t.Errorf("without power: %d", e)
		}
		d.Boot(0, nil)
		down(d)
		calls++
		is(t, "without power", x, 4, all3(), 2)
	}
}

// P21.3: the error of Put is answered, and the index is as it was; that of the log isn't: the log is behind then, and takes nothing till a Step.
func TestPutFails(t *testing.T) {
	do := map[string]func(x *Index) api.Errno{
		"Deliver": func(x *Index) api.Errno {
			n, e := x.Deliver(9, 1, 2, 8, 11)
			if (n == 4) != (e == api.OK) || n != 0 && n != 4 {
				t.Errorf("%d %d", n, e)
			}
			return e
		},
		"Expunge": func(x *Index) api.Errno { return x.Expunge(2) },
	}
	for what, do := range do {
		// Append and Sync of the box, then of the log; a Sync is asked once more.
		for n, c := range []struct {
			e      api.Errno
			behind bool
		}{{api.ErrBusy, false}, {api.OK, false}, {api.OK, true}, {api.OK, false}, {api.OK, false}} {
			d, x := three(t)
			before, was := tells(x), files(d)
			d.Fail(n, api.ErrBusy)
			e := do(x)
			if e != c.e || x.Behind() != c.behind || (tells(x) == before) != (e != api.OK) {
				t.Errorf("%s, call %d: %d %v %s", what, n, e, x.Behind(), tells(x))
			}
			d.Fail(-1, api.OK)
			now := files(d)
			if (now[1] == was[1]) != (e != api.OK) || (now[3] == was[3]) != (e != api.OK || c.behind) {
				t.Errorf("%s, call %d: %q", what, n, now)
			}
			delivers(t, x, msg(x.Next(), 2))
			if l := files(d); x.Behind() != c.behind || (l[3] == now[3]) != c.behind {
				t.Errorf("%s, call %d: behind %v", what, n, x.Behind())
			}
			again := opens(t, vdisk.New(filesOf(d), 4000))
			if tells(again) != tells(x) || again.Behind() {
				t.Errorf("%s, call %d: %s, not %s", what, n, tells(again), tells(x))
			}
			must(t, x.Step())
			if x.Behind() {
				t.Errorf("%s, call %d: behind", what, n)
			}
		}
	}
}

// filesOf are all files of a disk.
func filesOf(d *vdisk.Disk) []api.File {
	var l []api.File
	for _, n := range d.Names() {
		b, _ := d.Read(n)
		l = append(l, api.File{Name: n, Data: b})
	}
	return l
}

// P21.3: without room for the record nothing is delivered; with room for it alone the log is behind.
func TestDeliverRoom(t *testing.T) {
	was, x := three(t)
	delivers(t, opens(t, was), msg(4, 8))
	with, record := was.Used(), len(frames(msg(4, 8)))
	was, x = three(t)
	before := tells(x)
	for room := was.Used(); room <= with; room++ {
		d := vdisk.New(filesOf(was), room)
		x := opens(t, d)
		n, e := x.Deliver(msg(4, 8).Time, 0, 2, 8, 11)
		if room < was.Used()+record {
			if n != 0 || e != api.ErrSpace || tells(x) != before || x.Behind() {
				t.Errorf("%d bytes of room: %d %d %v", room-was.Used(), n, e, x.Behind())
			}
		} else if n != 4 || e != api.OK || x.Behind() != (room < with) {
			t.Errorf("%d bytes of room: %d %d %v", room-was.Used(), n, e, x.Behind())
		}
	}
}

// P21.4: Flag adds a transaction to the log, of the item of the use and one of these flags alone; nothing is put into the box.
func TestFlag(t *testing.T) {
	d, x := three(t)
	calls, was := d.Calls(), files(d)
	log := [][]string{tx(used(0, 0, 1)), tx(used(5, 1, 2)), tx(used(11, 2, 3)), tx(used(18, 3, 4)), tx(used(18, 3, 4), flagged(2, 6))}
	want := all3()
	for i, c := range [][2]int{{1, 0}, {3, 31}, {2, 6}, {1, 30}} {
		must(t, x.Flag(c[0], c[1]))
		want[c[0]-1].Flags = c[1]
		log = append(log, tx(used(18, 3, 4), flagged(c[0], c[1])))
		has(t, fmt.Sprint(c), d, calls, 2*(i+1), c1, was[1], x1, txs(log...))
		is(t, fmt.Sprint(c), x, 4, want)
		is(t, fmt.Sprint(c, " opened again"), opens(t, d), 4, want)
	}
}

// P21.4: ErrNone, where no live entry has the number, is ahead of ErrArg, where the flags are none; both are ahead of what the disk says.
func TestFlagArguments(t *testing.T) {
	d, x := three(t)
	must(t, x.Expunge(3))
	calls, before, was := d.Calls(), tells(x), files(d)
	look := func(what string) {
		for _, uid := range []int{0, 3, 4, -1, math.MaxInt, math.MinInt} {
			for _, flags := range []int{0, 31, 32, -1} {
				if e := x.Flag(uid, flags); e != api.ErrNone {
					t.Errorf("%s, %d: %d", what, uid, e)
				}
			}
		}
		for _, flags := range []int{-1, 32, 256, 256 + 3, math.MaxInt, math.MinInt} {
			if e := x.Flag(1, flags); e != api.ErrArg {
				t.Errorf("%s, flags %d: %d", what, flags, e)
			}
		}
		if tells(x) != before {
			t.Errorf("%s: %s, not %s", what, tells(x), before)
		}
	}
	look("power")
	has(t, "power", d, calls, 0, was...)
	down(d)
	look("no power")
	if e := x.Flag(1, 3); e != api.ErrDown || tells(x) != before {
		t.Errorf("no power: %d", e)
	}
}

// P21.4: the error of Step, if the log is behind, then that of Add; with each the flags are as they were.
func TestFlagFails(t *testing.T) {
	for n, c := range []struct{ e, inStep api.Errno }{
		{api.ErrBusy, api.ErrBusy}, {api.ErrBusy, api.OK}, {api.OK, api.OK}, {api.ErrBusy, api.OK},
		{api.OK, api.OK}, {api.ErrBusy, api.OK}, {api.OK, api.OK}, {api.OK, api.OK},
	} {
		for _, inStep := range []bool{false, true} {
			d, x := three(t)
			want := c.inStep
			if !inStep {
				want = c.e
				d.Fail(2, api.ErrBusy)
				must(t, x.Expunge(3))
			}
			before := tells(x)
			d.Fail(n, api.ErrBusy)
			e := x.Flag(2, 9)
			if e != want || (tells(x) == before) != (e != api.OK) {
				t.Errorf("call %d, in step %v: %d %s", n, inStep, e, tells(x))
			}
			if x.Behind() != (!inStep && e != api.OK && n < 5) {
				t.Errorf("call %d, in step %v: behind %v", n, inStep, x.Behind())
			}
			d.Fail(-1, api.OK)
			again := opens(t, vdisk.New(filesOf(d), 4000))
			if tells(again) != tells(x) {
				t.Errorf("call %d, in step %v: %s, not %s", n, inStep, tells(again), tells(x))
			}
			must(t, x.Flag(2, 9))
			if f, _ := x.Get(2); f.Flags != 9 || x.Behind() {
				t.Errorf("call %d: %v", n, f)
			}
		}
	}
}

// P21.4: of a log that is behind the snapshot comes first, and has the flags that were.
func TestFlagBehind(t *testing.T) {
	d, x := three(t)
	d.Fail(2, api.ErrBusy)
	must(t, x.Expunge(3))
	calls, box := d.Calls(), files(d)[1]
	must(t, x.Flag(2, 9))
	is(t, "behind", x, 4, lists(msg(1, 5), with(msg(2, 6), 9), msg(3, 7)), 3)
	log := txs(tx(used(11, 2, 4), flagged(1, 1, 2, 6)), tx(used(11, 2, 4), flagged(2, 9)))
	has(t, "behind", d, calls, 5+2, c1, box, x1, log)
}

// P21.4: Persist puts flags into the box that its places don't tell, by rising number; the log stays as it is, and a second time nothing is put.
func TestPersist(t *testing.T) {
	d, x := three(t)
	delivers(t, x, msg(4, 8))
	must(t, x.Flag(4, 1), x.Flag(4, 0), x.Flag(1, 2), x.Flag(1, 1), x.Flag(3, 9), x.Flag(3, 4), x.Flag(4, 5), x.Expunge(4))
	calls, was, before := d.Calls(), files(d), tells(x)
	must(t, x.Persist())
	box := was[1] + frames(flag(2, 6), flag(3, 4))
	has(t, "Persist", d, calls, 2+2, c1, box, x1, was[3])
	if tells(x) != before || x.Behind() {
		t.Errorf("%s, not %s", tells(x), before)
	}
	must(t, x.Persist(), opens(t, d).Persist(), x.Flag(3, 0), x.Flag(2, 6), x.Persist())
	box += frames(flag(3, 0))
	has(t, "again", d, calls, 4+2+2+2, c1, box, x1, files(d)[3])
	must(t, x.Flag(3, 4), x.Persist())
	box += frames(flag(3, 4))
	// Without the log it is the same.
	d = disk(4000, c1, box)
	is(t, "without its log", opens(t, d), 5, lists(msg(1, 5), with(msg(2, 6), 6), with(msg(3, 7), 4), msg(4, 8)), 4)
}

// P21.4: the first error of Put ends Persist, and is answered; what was put ahead stays.
func TestPersistFails(t *testing.T) {
	both := lists(flag(1, 3), flag(2, 6))
	for n, c := range []struct {
		e    api.Errno
		puts []api.Rec
	}{
		{api.ErrBusy, nil}, {api.OK, both},
		{api.ErrBusy, both[:1]}, {api.OK, both},
		{api.OK, both},
	} {
		d, x := three(t)
		must(t, x.Flag(1, 3))
		was, before := files(d), tells(x)
		d.Fail(n, api.ErrBusy)
		if e := x.Persist(); e != c.e || tells(x) != before {
			t.Errorf("call %d: %d %s", n, e, tells(x))
		}
		if l := files(d); !slices.Equal(l, []string{c1, was[1] + frames(c.puts...), x1, was[3]}) {
			t.Errorf("call %d: %q", n, l)
		}
		d.Fail(-1, api.OK)
		must(t, x.Persist())
		if l := files(d); l[1] != was[1]+frames(both...) {
			t.Errorf("call %d: %q", n, l)
		}
	}
	d, x := three(t)
	down(d)
	if e := x.Persist(); e != api.ErrDown {
		t.Errorf("without power: %d", e)
	}
	d, x = three(t)
	must(t, x.Persist())
	down(d)
	if e := x.Persist(); e != api.OK {
		t.Errorf("nothing to do, without power: %d", e)
	}
}

// P21.5: Compact puts the live entries' records, with their flags, in the place of the containers, and a snapshot in the log's.
func TestCompact(t *testing.T) {
	d, x := three(t)
	delivers(t, x, msg(4, 8))
	must(t, x.Expunge(1), x.Expunge(4))
	calls := d.Calls()
	must(t, x.Compact())
	want := lists(with(msg(2, 6), 6), msg(3, 7))
	box := frames(append(lists(head(1, 2, 5, 2)), want...)...)
	has(t, "Compact", d, calls, 5+2+5, c2, box, x1, txs(tx(used(13, 2, 5), flagged(2, 6, 3, 1))))
	is(t, "Compact", x, 5, want)
	if x.Behind() || x.Broken() != 0 {
		t.Errorf("%v %d", x.Behind(), x.Broken())
	}
	for _, uid := range []int{1, 4} {
		if _, ok := x.Get(uid); ok {
			t.Errorf("%d is there", uid)
		}
		if _, e := x.Read(uid); e != api.ErrNone {
			t.Errorf("%d: %d", uid, e)
		}
	}
	for _, r := range want {
		if got, e := x.Read(r.Uid); e != api.OK || !record.Same(got, r) {
			t.Errorf("%v %d, not %v", got, e, r)
		}
	}
	is(t, "opened again", opens(t, d), 5, want)
	delivers(t, x, msg(5, 1))
	must(t, x.Flag(5, 2), x.Compact())
	is(t, "again", x, 6, append(want, with(msg(5, 1), 2)))
	must(t, x.Expunge(2), x.Expunge(3), x.Expunge(5), x.Compact())
	is(t, "empty", x, 6, nil)
	is(t, "empty, opened again", opens(t, d), 6, nil)
	// What was persisted isn't any more, for the records tell it.
	if c := d.Calls(); x.Persist() != api.OK || d.Calls() != c {
		t.Error("Persist behind Compact")
	}
}

// P21.5: broken bytes go with the containers that had them.
func TestCompactBroken(t *testing.T) {
	d := disk(2000, c1, "xy"+frames(head(1, 1, 1, 0), msg(1, 5))+"z", c2, "w"+frames(msg(2, 6)))
	x := opens(t, d)
	if x.Broken() != 4 {
		t.Errorf("%d", x.Broken())
	}
	must(t, x.Compact())
	if x.Broken() != 0 {
		t.Errorf("%d", x.Broken())
	}
	is(t, "Compact", x, 3, lists(msg(1, 5), msg(2, 6)))
}

// P21.5: the error of the box's Compact is answered, and the index is as it was; if only the log can't be brought in step, it counts as behind, though its file tells of the mailbox as it is, till a Step was OK.
func TestCompactFails(t *testing.T) {
	for n, c := range []struct {
		e      api.Errno
		behind bool
	}{
		{api.ErrBusy, false}, {api.ErrBusy, false}, {api.OK, false}, {api.ErrBusy, false}, {api.OK, false}, // Swap of the box
		{api.OK, false}, {api.OK, false}, // Drop of the elder container
		{api.OK, true}, {api.OK, true}, {api.OK, false}, {api.OK, true}, {api.OK, false}, // Swap of the log
	} {
		d, x := three(t)
		must(t, x.Expunge(1))
		before, was := tells(x), files(d)
		d.Fail(n, api.ErrBusy)
		e := x.Compact()
		if e != c.e || x.Behind() != c.behind || (tells(x) == before) != (e != api.OK) {
			t.Errorf("call %d: %d %v %s", n, e, x.Behind(), tells(x))
		}
		if e != api.OK && !slices.Equal(files(d), was) {
			t.Errorf("call %d: %q", n, files(d))
		}
		d.Fail(-1, api.OK)
		if c.behind {
			compactedIsBehind(t, fmt.Sprint("call ", n), d, x)
		}
	}
	d, x := three(t)
	down(d)
	before := tells(x)
	if e := x.Compact(); e != api.ErrDown || tells(x) != before {
		t.Errorf("without power: %d", e)
	}
}

// compactedIsBehind looks at an index whose Compact was OK, and Step wasn't: nothing is added to the log till a Step was OK.
func compactedIsBehind(t *testing.T, what string, d *vdisk.Disk, x *Index) {
	t.Helper()
	// By its file it is in step.
	if y := opens(t, vdisk.New(filesOf(d), 4000)); y.Behind() || tells(y) != tells(x) {
		t.Errorf("%s: %v %s, not %s", what, y.Behind(), tells(y), tells(x))
	}
	log, _ := d.Read(x1)
	delivers(t, x, msg(4, 8))
	must(t, x.Expunge(4), x.Persist())
	if now, _ := d.Read(x1); string(now) != string(log) || !x.Behind() {
		t.Errorf("%s: %q", what, now)
	}
	must(t, x.Step())
	if now, _ := d.Read(x1); string(now) != txs(tx(used(13, 2, 5), flagged(2, 6, 3, 1))) || x.Behind() {
		t.Errorf("%s: %q", what, now)
	}
}

// P21.5: Read tells the record of a message, live or gone, as it stands in its file now.
func TestRead(t *testing.T) {
	d, x := three(t)
	must(t, x.Expunge(3))
	look := func(x *Index) {
		t.Helper()
		for _, want := range lists(msg(1, 5), msg(2, 6), msg(3, 7)) {
			if r, e := x.Read(want.Uid); e != api.OK || !record.Same(r, want) {
				t.Errorf("%v %d, not %v", r, e, want)
			}
		}
		for _, uid := range []int{0, -1, 4, math.MaxInt, math.MinInt} {
			if r, e := x.Read(uid); e != api.ErrNone || !record.Same(r, api.Rec{}) {
				t.Errorf("%d: %v %d", uid, r, e)
			}
		}
	}
	look(x)
	look(opens(t, d))
	d.Pwrite(c1, len(frames(head(1, 1, 1, 0), msg(1, 5)))+3, []byte("broken"))
	if r, e := x.Read(2); e != api.ErrBroken || !record.Same(r, api.Rec{}) {
		t.Errorf("broken: %v %d", r, e)
	}
	d.Pwrite(c1, len(frames(head(1, 1, 1, 0), msg(1, 5))), []byte(frames(msg(9, 9))))
	if r, e := x.Read(2); e != api.OK || !record.Same(r, msg(9, 9)) {
		t.Errorf("another one: %v %d", r, e)
	}
	d.Unlink(c1)
	if r, e := x.Read(1); e != api.ErrNone || !record.Same(r, api.Rec{}) {
		t.Errorf("no file: %v %d", r, e)
	}
	down(d)
	if r, e := x.Read(1); e != api.ErrDown || !record.Same(r, api.Rec{}) {
		t.Errorf("no power: %v %d", r, e)
	}
	if _, e := x.Read(4); e != api.ErrNone {
		t.Errorf("no power and no entry: %d", e)
	}
}

// P21.5: what isn't there is answered as none.
func TestAskNone(t *testing.T) {
	_, x := three(t)
	for _, n := range []int{0, -1, 99, math.MaxInt, math.MinInt} {
		if e, ok := x.Get(n); ok || e != (api.Entry{}) {
			t.Errorf("Get(%d): %v %v", n, e, ok)
		}
		if e, ok := x.From(n); ok || e != (api.Entry{}) {
			t.Errorf("From(%d): %v %v", n, e, ok)
		}
	}
}

// P21.6: what is answered is new memory: written over and grown, it changes nothing.
func TestMemory(t *testing.T) {
	d, x := three(t)
	must(t, x.Expunge(1))
	before, log := tells(x), files(d)[3]
	for _, gone := range []bool{false, true} {
		l := x.List(gone)
		for i := range l {
			l[i] = api.Entry{Uid: 77, Size: 9}
		}
		_ = append(l[:0], api.Entry{})
	}
	for i, n := range x.Bodies() {
		b := x.Bodies()
		b[i] = n + 50
		_ = append(b[:0], 7)
	}
	if tells(x) != before {
		t.Errorf("%s, not %s", tells(x), before)
	}
	must(t, x.Flag(2, 1), x.Flag(3, 3))
	if l := files(d)[3]; !strings.HasPrefix(l, log) {
		t.Error("the log was changed")
	}
}
