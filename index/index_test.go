package index

import (
	"encoding/binary"
	"fmt"
	"math"
	"slices"
	"testing"

	"pigeonhole/api"
	"pigeonhole/record"
	"pigeonhole/txlog"
	"pigeonhole/vdisk"
)

// The names of the files of user 1.
const (
	x1 = "x001"
	c1 = "c001-00000001"
	c2 = "c001-00000002"
	c3 = "c001-00000003"
)

func head(user, seq, next, base int) api.Rec {
	return api.Rec{Kind: api.RecHead, User: user, Seq: seq, Next: next, Base: base}
}

// msg is a message of so many bytes; its other fields hang on its number.
func msg(uid, size int) api.Rec {
	return api.Rec{Kind: api.RecMsg, Uid: uid, Time: uid + 5, Flags: uid % 2, Body: uid%3 + 1, Size: size, Origin: uid%5 + 7}
}

func gone(uid int) api.Rec {
	return api.Rec{Kind: api.RecGone, Uid: uid}
}

func flag(uid, flags int) api.Rec {
	return api.Rec{Kind: api.RecFlag, Uid: uid, Flags: flags}
}

// with is a message's record with other flags.
func with(r api.Rec, flags int) api.Rec {
	r.Flags = flags
	return r
}

// frames is those of records, one behind the other.
func frames(l ...api.Rec) string {
	s := ""
	for _, r := range l {
		b, e := record.Frame(r)
		if e != api.OK {
			panic(fmt.Sprintf("%v: %d", r, e))
		}
		s += string(b)
	}
	return s
}

// used is the item that tells how much there is.
func used(bytes, count, next int) string {
	b := binary.BigEndian.AppendUint64([]byte{1}, uint64(bytes))
	b = binary.BigEndian.AppendUint64(b, uint64(count))
	return string(binary.BigEndian.AppendUint32(b, uint32(next)))
}

// flagged is the item that tells flags, told as number and flags in turn.
func flagged(l ...int) string {
	b := []byte{2}
	for i := 0; i < len(l); i += 2 {
		b = append(binary.BigEndian.AppendUint32(b, uint32(l[i])), byte(l[i+1]))
	}
	return string(b)
}

// txs is the bytes of transactions from the number 1 on, each told by its items.
func txs(l ...[]string) string {
	s := ""
	for i, items := range l {
		var of [][]byte
		for _, item := range items {
			of = append(of, []byte(item))
		}
		b, e := txlog.Bytes(i+1, of)
		if e != api.OK {
			panic(fmt.Sprint(e))
		}
		s += string(b)
	}
	return s
}

// tx is the items of a transaction.
func tx(items ...string) []string {
	return items
}

// disk is a disk with files, told as name and bytes in turn.
func disk(room int, told ...string) *vdisk.Disk {
	var l []api.File
	for i := 0; i < len(told); i += 2 {
		l = append(l, api.File{Name: told[i], Data: []byte(told[i+1])})
	}
	d := vdisk.New(l, room)
	if d == nil {
		panic("no disk")
	}
	return d
}

// down lets the power of a disk go.
func down(d *vdisk.Disk) *vdisk.Disk {
	d.Crash(0)
	d.SyncDir()
	return d
}

// files tells all files of a disk, as disk takes them.
func files(d *vdisk.Disk) []string {
	var l []string
	for _, n := range d.Names() {
		b, _ := d.Read(n)
		l = append(l, n, string(b))
	}
	return l
}

// has fails, where a disk hasn't just these files, or something of it isn't sure, or so many calls weren't made since there were as many as told.
func has(t *testing.T, what string, d *vdisk.Disk, since, calls int, told ...string) {
	t.Helper()
	if l := files(d); !slices.Equal(l, told) {
		t.Errorf("%s: files %q, not %q", what, l, told)
	}
	if n := d.Calls() - since; n != calls {
		t.Errorf("%s: %d calls, not %d", what, n, calls)
	}
	if turns, writes := d.Waits(); turns != 0 || writes != 0 {
		t.Errorf("%s: %d turns and %d writes wait", what, turns, writes)
	}
}

// opens is the index of user 1, which can be opened.
func opens(t *testing.T, d *vdisk.Disk) *Index {
	t.Helper()
	x, e := Open(d, 1, 1000)
	if x == nil || e != api.OK {
		t.Fatalf("Open: %v %d", x != nil, e)
	}
	return x
}

// delivers delivers a message, which must get that record.
func delivers(t *testing.T, x *Index, r api.Rec) {
	t.Helper()
	if n, e := x.Deliver(r.Time, r.Flags, r.Body, r.Size, r.Origin); n != r.Uid || e != api.OK {
		t.Fatalf("Deliver: %d %d", n, e)
	}
}

// must fails, where what was done answered an error.
func must(t *testing.T, errors ...api.Errno) {
	t.Helper()
	for i, e := range errors {
		if e != api.OK {
			t.Fatalf("%d: %d", i, e)
		}
	}
}

// entries are those that records of messages make, of which some numbers are gone.
func entries(l []api.Rec, gone ...int) []api.Entry {
	var all []api.Entry
	for _, r := range l {
		e := api.Entry{Uid: r.Uid, Time: r.Time, Flags: r.Flags, Body: r.Body, Size: r.Size, Origin: r.Origin}
		if slices.Contains(gone, r.Uid) {
			e.Flags, e.Gone = 0, true
		}
		all = append(all, e)
	}
	return all
}

// tells is all that an index tells of its entries.
func tells(x *Index) string {
	var l []string
	for _, e := range x.List(true) {
		g, ok := x.Get(e.Uid)
		f, known := x.From(e.Origin)
		l = append(l, fmt.Sprint(e, g == e, ok, f, known))
	}
	return fmt.Sprint(l, x.List(false), x.Use(), x.Next(), x.Bodies())
}

// is fails, where an index hasn't just the messages of these records, of which some numbers are gone, and that next number.
func is(t *testing.T, what string, x *Index, next int, l []api.Rec, gone ...int) {
	t.Helper()
	all := entries(l, gone...)
	live := slices.DeleteFunc(slices.Clone(all), func(e api.Entry) bool { return e.Gone })
	if got, want := fmt.Sprint(x.List(true), x.List(false)), fmt.Sprint(all, live); got != want {
		t.Errorf("%s: %s, not %s", what, got, want)
	}
	use, bodies := api.Use{Count: len(live)}, []int{}
	for _, e := range live {
		use.Bytes += e.Size
		bodies = append(bodies, e.Body)
	}
	slices.Sort(bodies)
	if u := x.Use(); u != use || x.Next() != next {
		t.Errorf("%s: %v %d, not %v %d", what, u, x.Next(), use, next)
	}
	if got, want := fmt.Sprint(x.Bodies()), fmt.Sprint(slices.Compact(bodies)); got != want {
		t.Errorf("%s: bodies %s, not %s", what, got, want)
	}
	for _, e := range all {
		least := slices.IndexFunc(all, func(f api.Entry) bool { return f.Origin == e.Origin })
		if got, ok := x.From(e.Origin); e.Origin > 0 && (!ok || got != all[least]) {
			t.Errorf("%s: from %d: %v %v", what, e.Origin, got, ok)
		}
		if got, ok := x.Get(e.Uid); !ok || got != e {
			t.Errorf("%s: %v %v, not %v", what, got, ok, e)
		}
	}
}

// lists is records, one behind the other.
func lists(l ...api.Rec) []api.Rec {
	return l
}

// P21.1: a log's name has three digits of the user's number.
func TestLogName(t *testing.T) {
	for user, want := range map[int]string{
		1: "x001", 7: "x007", 10: "x010", 99: "x099", 100: "x100", 999: "x999",
		0: "", -1: "", 1000: "", -1000: "", 1001: "", 2000: "", math.MaxInt: "", math.MinInt: "",
	} {
		if got := LogName(user); got != want {
			t.Errorf("%d: %q, not %q", user, got, want)
		}
	}
}

// P21.1, P21.2: an empty disk makes a mailbox without entries; its log is made, and brought in step.
func TestOpenEmpty(t *testing.T) {
	for user, name := range map[int]string{1: "x001", 999: "x999"} {
		d := disk(1000)
		x, e := Open(d, user, 1)
		if e != api.OK {
			t.Fatal(e)
		}
		has(t, "empty", d, 0, 4+5, name, txs(tx(used(0, 0, 1))))
		is(t, "empty", x, 1, nil)
		if x.Behind() || x.Broken() != 0 {
			t.Errorf("%v %d", x.Behind(), x.Broken())
		}
		y, e := Open(d, user, 1)
		if e != api.OK || y.Behind() {
			t.Errorf("again: %d", e)
		}
		has(t, "again", d, 0, 9, name, txs(tx(used(0, 0, 1))))
	}
}

// P21.1: the errors of Open, one ahead of the other; nothing is answered beside them.
func TestOpenErrors(t *testing.T) {
	full := func() []string {
		var l []string
		for i := range api.MaxFiles {
			l = append(l, fmt.Sprint("f", i), "")
		}
		return l
	}()
	for i, c := range []struct {
		files       []string
		user, bound int
		fail        int
		e           api.Errno
		names       []string
	}{
		// What dbox.Open answers: the arguments, new containers left, names that are none, elder containers.
		{nil, 0, 1, 0, api.ErrArg, nil},
		{nil, 1000, 1, 0, api.ErrArg, nil},
		{nil, 1, 0, 0, api.ErrArg, nil},
		{nil, math.MinInt, math.MinInt, -1, api.ErrArg, nil},
		{[]string{c1 + ".n", "", "c001-", "", "x001.n", ""}, 1, 1, 0, api.ErrBusy, []string{"c001-", c1 + ".n", "x001.n"}},
		{[]string{c1 + ".n", "", "c001-", "", "x001.n", ""}, 1, 1, -1, api.ErrBroken, []string{"c001-", "x001.n"}},
		{[]string{c1, "", c2, frames(head(1, 2, 1, 2)), "x001.n", ""}, 1, 1, 0, api.ErrBusy, []string{c1, c2, "x001.n"}},
		// What safe.Tidy answers, by the log's name: "x0011.n" begins with it too.
		{[]string{"x0011.n", "", "x001.n", ""}, 1, 1, 0, api.ErrBusy, []string{"x001.n", "x0011.n"}},
		{[]string{"x0011.n", "", "x001.n", ""}, 1, 1, 1, api.ErrBusy, []string{"x0011.n"}},
		// What txlog.Open answers: that of making the file.
		{[]string{"x001.n", ""}, 1, 1, 1, api.ErrBusy, nil},
		{nil, 1, 1, 0, api.ErrBusy, nil},
		{nil, 1, 1, 1, api.ErrBusy, nil},
		{full, 1, 1, -1, api.ErrFull, slices.Sorted(slices.Values(disk(1, full...).Names()))},
	} {
		d := disk(1000, c.files...)
		d.Fail(c.fail, api.ErrBusy)
		x, e := Open(d, c.user, c.bound)
		if x != nil || e != c.e {
			t.Errorf("%d: %v %d, not %d", i, x != nil, e, c.e)
		}
		if l := d.Names(); !slices.Equal(l, c.names) {
			t.Errorf("%d: %q, not %q", i, l, c.names)
		}
	}
	for _, user := range []int{0, 1} {
		if x, e := Open(down(disk(10)), user, 1); x != nil || e != api.ErrDown {
			t.Errorf("without power: %v %d", x != nil, e)
		}
	}
}

// P21.1: new files that were left go, if their names begin with the log's.
func TestOpenTidy(t *testing.T) {
	d := disk(1000, "x001.n", "left", "x0011.n", "left", "x0011", "", "x002.n", "", "x00.n", "", c1+".n", "")
	opens(t, d)
	has(t, "tidy", d, 0, 1+2+4+5, "x00.n", "", x1, txs(tx(used(0, 0, 1))), "x0011", "", "x002.n", "")
}

// P21.1: a Step that fails at Open says nothing, but for ErrDown: the index is there, and its log is behind.
func TestOpenStepFails(t *testing.T) {
	box := frames(head(1, 1, 1, 0), msg(1, 3))
	elder := txs(tx(used(0, 0, 1)), tx("", flagged(1, 7)))
	// Swap asks its calls at 2 and 4 once more.
	for n, behind := range []bool{true, true, false, true, false, false} {
		d := disk(1000, c1, box, x1, elder)
		d.Fail(n, api.ErrBusy)
		x := opens(t, d)
		is(t, fmt.Sprint("call ", n), x, 2, lists(with(msg(1, 3), 7)))
		if x.Behind() != behind {
			t.Errorf("call %d: %v", n, x.Behind())
		}
		want := txs(tx(used(3, 1, 2), flagged(1, 7)))
		if behind {
			want = elder
		}
		if l := files(d); !slices.Equal(l, []string{c1, box, x1, want}) {
			t.Errorf("call %d: %q", n, l)
		}
	}
	d := disk(len(box)+len(elder)+9, c1, box, x1, elder)
	x := opens(t, d)
	is(t, "no room", x, 2, lists(with(msg(1, 3), 7)))
	if !x.Behind() {
		t.Error("no room, and not behind")
	}
	for n := range 5 {
		d := disk(1000, c1, box, x1, elder)
		d.Crash(n)
		if x, e := Open(d, 1, 1000); x != nil || e != api.ErrDown {
			t.Errorf("power at call %d: %v %d", n, x != nil, e)
		}
	}
}

// P21.1, words: the flags that a log tells behind what the box does, transaction by transaction, item by item; what is no item 02 tells none. Whatever they tell, the log is in step only by its last transaction's first item.
func TestReplay(t *testing.T) {
	box := frames(head(1, 1, 1, 0), msg(1, 3), msg(2, 4), gone(2), msg(3, 5), flag(3, 6), head(1, 1, 9, 0))
	is9 := used(8, 2, 9)
	for i, c := range []struct {
		log    string
		f1, f3 int
		inStep bool
	}{
		{"", 1, 6, false},
		{txs(tx(is9)), 1, 6, true},
		{txs(tx(is9), tx()), 1, 6, false},
		{txs(tx(), tx(is9)), 1, 6, true},
		{txs(tx(flagged(1, 2), is9)), 2, 6, false},
		{txs(tx(is9, flagged(1, 2))), 2, 6, true},
		{txs(tx(is9, flagged(1, 2)), tx(is9, flagged(3, 4, 1, 5))), 5, 4, true},
		{txs(tx(is9, flagged(1, 2), flagged(1, 3, 1, 4))), 4, 6, true},
		{txs(tx(is9, flagged(1, 0, 3, 31, 2, 7))), 0, 31, true},
		// Those that the mailbox can't take are passed over alone.
		{txs(tx(is9, flagged(1, 32, 3, 2, 0, 1, 4, 9, 1<<31+1, 1, 1<<32-1, 255, 1, 3))), 3, 2, true},
		// Items that aren't as told.
		{txs(tx(is9, flagged(1, 2)+"x", flagged(3, 4)[:5], "\x02", "", "\x03"+flagged(1, 9)[1:], "\x01"+flagged(1, 9)[1:])), 1, 6, true},
		{txs(tx(is9, flagged(1, 2, 3, 4)+"abcd")), 1, 6, true},
		{txs(tx(is9, flagged(1, 2), "x"+flagged(1, 4), flagged(3, 5))), 2, 5, true},
		// Items of the use that aren't that of the mailbox, or not alone.
		{txs(tx(used(8, 2, 8))), 1, 6, false},
		{txs(tx(used(8, 3, 9))), 1, 6, false},
		{txs(tx(used(7, 2, 9))), 1, 6, false},
		{txs(tx(is9 + "x")), 1, 6, false},
		{txs(tx(is9[:20])), 1, 6, false},
		{txs(tx("\x03" + is9[1:])), 1, 6, false},
		{txs(tx("", is9)), 1, 6, false},
		{txs(tx(used(1, 1, 1), is9)), 1, 6, false},
		{txs(tx(is9), tx(used(8, 2, 8), flagged(1, 3))), 3, 6, false},
		// Behind what is no transaction nothing is told.
		{txs(tx(is9, flagged(1, 2))) + "x", 2, 6, false},
		{txs(tx(is9, flagged(1, 2)), tx(is9, flagged(1, 3)))[:len(txs(tx(is9, flagged(1, 2))))+50], 2, 6, false},
		{"x" + txs(tx(is9, flagged(1, 2))), 1, 6, false},
	} {
		d := disk(2000, c1, box, x1, c.log)
		x := opens(t, d)
		want := lists(with(msg(1, 3), c.f1), msg(2, 4), with(msg(3, 5), c.f3))
		is(t, fmt.Sprint(i), x, 9, want, 2)
		if x.Behind() {
			t.Errorf("%d: behind", i)
		}
		if c.inStep {
			has(t, fmt.Sprint(i), d, 0, 0, c1, box, x1, c.log)
		} else {
			has(t, fmt.Sprint(i), d, 0, 5, c1, box, x1, txs(tx(is9, flagged(1, c.f1, 3, c.f3))))
		}
		is(t, fmt.Sprint(i, " again"), opens(t, d), 9, want, 2)
	}
}

// P21.1, words: what the containers tell: those that count, in their order; a record that doesn't fit the entries is passed over; the next number is the box's.
func TestOpenBox(t *testing.T) {
	d := disk(3000,
		c1, frames(head(1, 1, 1, 0), msg(9, 9)),
		c2, "xy"+frames(head(1, 2, 1, 2), msg(3, 5), gone(4), msg(4, 6), flag(7, 7)),
		c3, frames(with(msg(3, 6), 9), flag(3, 8), gone(4), flag(4, 3), msg(4, 7), msg(1, 1))+"z",
		"c002-00000001", frames(msg(5, 5)))
	x := opens(t, d)
	is(t, "containers", x, 8, lists(msg(1, 1), with(msg(3, 5), 8), msg(4, 6)), 4)
	if x.Broken() != 3 {
		t.Errorf("%d bytes are broken", x.Broken())
	}
	if d.Calls() != 2+4+5 {
		t.Errorf("%d calls", d.Calls())
	}
	// Read tells the record that was taken, not one that was passed over.
	for uid, want := range map[int]api.Rec{1: msg(1, 1), 3: msg(3, 5), 4: msg(4, 6)} {
		if r, e := x.Read(uid); e != api.OK || !record.Same(r, want) {
			t.Errorf("%d: %v %d", uid, r, e)
		}
	}
	y, e := Open(d, 2, 1)
	if e != api.OK || y.Next() != 6 || len(y.List(true)) != 1 {
		t.Errorf("user 2: %d", e)
	}
}

// P21.2: a snapshot has the item of the use, and then the flags of all live entries, 500 in an item.
func TestSnapshot(t *testing.T) {
	for _, n := range []int{0, 1, 2, 499, 500, 501, 999, 1000, 1001, 1500} {
		recs := []api.Rec{head(1, 1, 1, 0)}
		items, pairs, bytes := []string{}, []int{}, 0
		for i := range n {
			uid := 3*i + 2
			recs = append(recs, msg(uid, i))
			bytes += i
			pairs = append(pairs, uid, uid%2)
			if len(pairs) == 1000 {
				items, pairs = append(items, flagged(pairs...)), nil
			}
		}
		// Some that are gone stand between.
		recs = append(recs, msg(1, 9), gone(1), msg(9000, 9), gone(9000))
		if len(pairs) > 0 {
			items = append(items, flagged(pairs...))
		}
		box := frames(recs...)
		d := disk(api.MaxDisk, c1, box)
		x := opens(t, d)
		want := txs(append(tx(used(bytes, n, 9001)), items...))
		has(t, fmt.Sprint(n), d, 0, 4+5, c1, box, x1, want)
		must(t, x.Step())
		if x.Behind() || d.Calls() != 9 {
			t.Errorf("%d: %v %d", n, x.Behind(), d.Calls())
		}
		y := opens(t, d)
		if tells(y) != tells(x) || d.Calls() != 9 {
			t.Errorf("%d: opened again: %d calls", n, d.Calls())
		}
	}
}

// P21.2: Step makes no call, if the log is in step; else it rotates the log, and its error is answered.
func TestStep(t *testing.T) {
	box := frames(head(1, 1, 1, 0), msg(1, 3))
	want := txs(tx(used(3, 1, 2), flagged(1, 1)))
	for n := range 6 {
		for _, log := range []string{"x", txs(tx()), txs(tx(used(3, 1, 2))) + "x"} {
			d := disk(1000, c1, box, x1, log)
			d.Fail(0, api.ErrBusy)
			x := opens(t, d)
			if !x.Behind() {
				t.Fatal("in step")
			}
			d.Fail(n, api.ErrBusy)
			fails := n == 0 || n == 1 || n == 3
			if e := x.Step(); (e == api.ErrBusy) != fails || x.Behind() != fails {
				t.Errorf("call %d: %d %v", n, e, x.Behind())
			}
			d.Fail(-1, api.OK)
			must(t, x.Step())
			if x.Behind() {
				t.Errorf("call %d: behind", n)
			}
			if l := files(d); !slices.Equal(l, []string{c1, box, x1, want}) {
				t.Errorf("call %d: %q", n, l)
			}
			down(d)
			must(t, x.Step())
		}
	}
	d := disk(1000, c1, box, x1, "x")
	d.Fail(0, api.ErrBusy)
	x := opens(t, d)
	down(d)
	if e := x.Step(); e != api.ErrDown || !x.Behind() {
		t.Errorf("without power: %d", e)
	}
}
