package txlog

import (
	"fmt"
	"slices"
	"strings"
	"testing"

	"pigeonhole/api"
	"pigeonhole/vdisk"
)

// fileOf is the bytes of a file of transactions of these items.
func fileOf(lists ...[][]byte) string {
	var b []byte
	for i, l := range lists {
		b = append(b, plainTx(i+1, l)...)
	}
	return string(b)
}

// disk is a disk whose file "x" has these bytes.
func disk(room int, file string) *vdisk.Disk {
	return vdisk.New([]api.File{{Name: "x", Data: []byte(file)}}, room)
}

// down lets the power of a disk go.
func down(d *vdisk.Disk) *vdisk.Disk {
	d.Crash(0)
	d.SyncDir()
	return d
}

// opens is the log of the file "x"; it fails where Open doesn't tell these lists of items.
func opens(t *testing.T, d *vdisk.Disk, lists ...[][]byte) *Log {
	t.Helper()
	var want []api.Tx
	for i, l := range lists {
		want = append(want, api.Tx{N: i + 1, Items: l})
	}
	l, txs, e := Open(d, "x")
	if l == nil || e != api.OK || tells(txs) != tells(want) {
		t.Fatalf("Open: %v %s%d, not %s", l != nil, tells(txs), e, tells(want))
	}
	return l
}

// is fails, where a call didn't answer that error, or the log isn't told so.
func is(t *testing.T, what string, l *Log, got, want api.Errno, n int, whole bool) {
	t.Helper()
	if got != want {
		t.Errorf("%s: %d, not %d", what, got, want)
	}
	if l.Len() != n || l.Whole() != whole || l.Name() != "x" {
		t.Errorf("%s: %d %v %q, not %d %v", what, l.Len(), l.Whole(), l.Name(), n, whole)
	}
}

// has fails, where the disk hasn't the file "x" with these bytes alone, all of it sure, or so many calls weren't made.
func has(t *testing.T, what string, d *vdisk.Disk, file string, calls int) {
	t.Helper()
	b, e := d.Read("x")
	if e != api.OK || string(b) != file || !slices.Equal(d.Names(), []string{"x"}) {
		t.Errorf("%s: %x %d, of %q, not %x", what, b, e, d.Names(), file)
	}
	if d.Calls() != calls {
		t.Errorf("%s: %d calls, not %d", what, d.Calls(), calls)
	}
	if turns, writes := d.Waits(); turns != 0 || writes != 0 {
		t.Errorf("%s: %d turns and %d writes wait", what, turns, writes)
	}
}

// P17.2: a file that isn't there is made, for sure, by the four calls of safe.Make.
func TestOpenNone(t *testing.T) {
	d := vdisk.New(nil, 10)
	l := opens(t, d)
	is(t, "Open", l, api.OK, api.OK, 0, true)
	has(t, "Open", d, "", 4)
	for _, n := range []int{2, 3} {
		d = vdisk.New(nil, 10)
		d.Fail(n, api.ErrBusy)
		is(t, "a call is asked twice", opens(t, d), api.OK, api.OK, 0, true)
		has(t, "a call is asked twice", d, "", 5)
	}
}

// P17.2: a file that is there is read, and no call that changes is made.
func TestOpenThere(t *testing.T) {
	file, ends := sampleFile()
	for n := range len(file) + 1 {
		whole := 0
		for whole+1 < len(ends) && ends[whole+1] <= n {
			whole++
		}
		d := disk(1000, string(file[:n]))
		d.Fail(0, api.ErrBusy)
		l := opens(t, d, sample()[:whole]...)
		is(t, "Open", l, api.OK, api.OK, whole, n == ends[whole])
		has(t, "Open", d, string(file[:n]), 0)
	}
	for _, behind := range []string{"\x00", "P", "P\x20", fileOf(nil)} {
		d := disk(1000, string(file)+behind)
		is(t, "more behind", opens(t, d, sample()...), api.OK, api.OK, 4, false)
		has(t, "more behind", d, string(file)+behind, 0)
	}
	is(t, "only what is next", opens(t, disk(1000, string(plainTx(2, nil)))), api.OK, api.OK, 0, false)
}

// P17.2: the error of reading, and that of making; beside it there is nothing.
func TestOpenErrors(t *testing.T) {
	full := make([]api.File, api.MaxFiles)
	for i := range full {
		full[i].Name = fmt.Sprint("f", i)
	}
	failing := vdisk.New(nil, 10)
	failing.Fail(1, api.ErrBusy)
	crashing := vdisk.New(nil, 10)
	crashing.Crash(2)
	for _, c := range []struct {
		d    *vdisk.Disk
		name string
		want api.Errno
	}{
		{down(disk(10, "")), "x", api.ErrDown},
		{down(vdisk.New(nil, 10)), "x", api.ErrDown},
		{down(vdisk.New(nil, 10)), "X", api.ErrDown},
		{vdisk.New(nil, 10), "X", api.ErrForm},
		{vdisk.New(nil, 10), "", api.ErrForm},
		{vdisk.New(nil, 10), strings.Repeat("x", 33), api.ErrForm},
		{vdisk.New(full, 10), "x", api.ErrFull},
		{failing, "x", api.ErrBusy},
		{crashing, "x", api.ErrDown},
	} {
		if l, txs, e := Open(c.d, c.name); l != nil || len(txs) != 0 || e != c.want {
			t.Errorf("Open %q: %v %s%d, not %d", c.name, l != nil, tells(txs), e, c.want)
		}
	}
	if len(failing.Names()) != 0 {
		t.Errorf("%q was left", failing.Names())
	}
}

// P17.3, P17.4: transactions are added one behind the other, each by the two calls of safe.Append.
func TestAdd(t *testing.T) {
	d := vdisk.New(nil, 1000)
	l := opens(t, d)
	for i, x := range sample() {
		is(t, "Add", l, l.Add(x), api.OK, i+1, true)
		has(t, "Add", d, fileOf(sample()[:i+1]...), 4+2*(i+1))
	}
	l = opens(t, d, sample()...)
	is(t, "opened again", l, l.Add(items("e")), api.OK, 5, true)
	opens(t, d, append(sample(), items("e"))...)
	d = disk(1000, fileOf(nil))
	l = opens(t, d, nil)
	d.Fail(1, api.ErrBusy)
	is(t, "Sync is asked twice", l, l.Add(nil), api.OK, 2, true)
	has(t, "Sync is asked twice", d, fileOf(nil, nil), 3)
}

// P17.3: to a log that isn't whole nothing is added, whatever it is.
func TestAddBroken(t *testing.T) {
	d := disk(1000, fileOf(items("a"))+"P")
	l := opens(t, d, items("a"))
	for _, x := range [][][]byte{nil, items("a"), make([][]byte, 1001)} {
		is(t, "broken", l, l.Add(x), api.ErrBroken, 1, false)
		has(t, "broken", d, fileOf(items("a"))+"P", 0)
	}
	down(d)
	is(t, "broken, without power", l, l.Add(nil), api.ErrBroken, 1, false)
}

// P17.3: the error of Bytes ahead of that of the disk; with an error the log is as it was.
func TestAddErrors(t *testing.T) {
	was := fileOf(items("a"))
	room := len(was) + len(plainTx(2, items("b"))) - 1
	for _, c := range []struct {
		what  string
		items [][]byte
		arm   func(d *vdisk.Disk)
		calls int
		want  api.Errno
	}{
		{"too many", make([][]byte, 1001), func(d *vdisk.Disk) { d.Fail(0, api.ErrBusy) }, 0, api.ErrLarge},
		{"too long", [][]byte{nil, make([]byte, 4097)}, func(d *vdisk.Disk) { d.Fail(0, api.ErrBusy) }, 0, api.ErrLarge},
		{"no room", items("b"), func(d *vdisk.Disk) {}, 1, api.ErrSpace},
		{"Append fails", nil, func(d *vdisk.Disk) { d.Fail(0, api.ErrBusy) }, 1, api.ErrBusy},
	} {
		d := disk(room, was)
		l := opens(t, d, items("a"))
		c.arm(d)
		is(t, c.what, l, l.Add(c.items), c.want, 1, true)
		has(t, c.what, d, was, c.calls)
		d.Fail(-1, api.OK)
		is(t, c.what+", then what fits", l, l.Add(nil), api.OK, 2, true)
		opens(t, d, items("a"), nil)
	}
	d := disk(room, was)
	l := opens(t, d, items("a"))
	down(d)
	is(t, "without power", l, l.Add(nil), api.ErrDown, 1, true)
	is(t, "too many, without power", l, l.Add(make([][]byte, 1001)), api.ErrLarge, 1, true)
	d.Boot(0, nil)
	is(t, "with power again", l, l.Add(nil), api.OK, 2, true)
}

// P17.3: Rotate puts one in the place of all by the five calls of safe.Swap; the log is whole then, whatever its file had.
func TestRotate(t *testing.T) {
	for _, was := range []string{"", fileOf(nil), fileOf(nil, items("a"), nil), fileOf(nil) + "P", "rubbish"} {
		for _, x := range sample() {
			d := disk(1000, was)
			l, _, _ := Open(d, "x")
			is(t, "Rotate", l, l.Rotate(x), api.OK, 1, true)
			has(t, "Rotate", d, fileOf(x), 5)
			is(t, "Add behind it", l, l.Add(items("b")), api.OK, 2, true)
			is(t, "Add behind it", opens(t, d, x, items("b")), api.OK, api.OK, 2, true)
		}
	}
}

// P17.3: the error of Bytes ahead of that of Swap; with an error the log is as it was.
func TestRotateErrors(t *testing.T) {
	for _, was := range []string{fileOf(items("a"), nil), fileOf(items("a"), nil) + "P"} {
		room, whole := len(was)+len(plainTx(1, items("a")))-1, was == fileOf(items("a"), nil)
		for _, c := range []struct {
			what  string
			items [][]byte
			fail  int
			calls int
			want  api.Errno
		}{
			{"too many", make([][]byte, 1001), 0, 0, api.ErrLarge},
			{"too long", [][]byte{nil, make([]byte, 4097)}, 0, 0, api.ErrLarge},
			{"no room", items("a"), -1, 3, api.ErrSpace},
			{"Create fails", nil, 0, 1, api.ErrBusy},
			{"Append fails", nil, 1, 3, api.ErrBusy},
			{"Rename fails", nil, 3, 5, api.ErrBusy},
		} {
			d := disk(room, was)
			l := opens(t, d, items("a"), nil)
			d.Fail(c.fail, api.ErrBusy)
			is(t, c.what, l, l.Rotate(c.items), c.want, 2, whole)
			b, _ := d.Read("x")
			if string(b) != was || d.Calls() != c.calls || len(d.Names()) != 1 {
				t.Errorf("%s: %x, %d calls, %q", c.what, b, d.Calls(), d.Names())
			}
			is(t, "opened again", opens(t, d, items("a"), nil), api.OK, api.OK, 2, whole)
		}
		d := disk(room, was)
		l := opens(t, d, items("a"), nil)
		down(d)
		is(t, "without power", l, l.Rotate(nil), api.ErrDown, 2, whole)
		is(t, "too many, without power", l, l.Rotate(make([][]byte, 1001)), api.ErrLarge, 2, whole)
	}
}

// P17.3: a name of which no new one can be made has a log, but none that can be rotated.
func TestLongName(t *testing.T) {
	for n, want := range map[int]api.Errno{30: api.OK, 31: api.ErrForm, 32: api.ErrForm} {
		name := strings.Repeat("x", n)
		d := vdisk.New(nil, 1000)
		l, _, e := Open(d, name)
		if e != api.OK || l.Name() != name || l.Add(nil) != api.OK || l.Add(nil) != api.OK {
			t.Fatalf("%d: %d", n, e)
		}
		left := 2
		if want == api.OK {
			left = 1
		}
		if e := l.Rotate(nil); e != want || l.Len() != left || !l.Whole() {
			t.Errorf("%d: %d, %d transactions", n, e, l.Len())
		}
		if _, txs, e := Open(d, name); e != api.OK || len(txs) != left {
			t.Errorf("%d: %s%d", n, tells(txs), e)
		}
	}
}

// P17.4: a log is whole only as long as its transactions are all that its file has, whoever wrote that.
func TestWhole(t *testing.T) {
	d := disk(1000, fileOf(items("a"), nil))
	l, other := opens(t, d, items("a"), nil), opens(t, d, items("a"), nil)
	is(t, "another adds", other, other.Add(nil), api.OK, 3, true)
	is(t, "another adds", l, l.Add(nil), api.ErrBroken, 2, false)
	is(t, "another rotates", other, other.Rotate(items("a")), api.OK, 1, true)
	is(t, "another rotates", l, l.Add(nil), api.ErrBroken, 2, false)
	is(t, "another comes to the same", other, other.Add(nil), api.OK, 2, true)
	is(t, "another comes to the same", l, l.Add(items("b")), api.OK, 3, true)
	opens(t, d, items("a"), nil, items("b"))
	for at := range len(fileOf(items("a"))) {
		file := fileOf(items("a"), nil)
		d := disk(1000, file)
		l := opens(t, d, items("a"), nil)
		d.Pwrite("x", at, []byte{file[at] ^ 1})
		is(t, "a byte is another", l, l.Add(nil), api.ErrBroken, 2, false)
		d.Pwrite("x", at, []byte{file[at]})
		is(t, "it is as it was", l, l.Add(nil), api.OK, 3, true)
	}
	d.Append("x", []byte("P"))
	l = opens(t, d, items("a"), nil, items("b"))
	is(t, "more behind", l, api.OK, api.OK, 3, false)
	down(d).Boot(0, nil)
	is(t, "it wasn't sure", l, l.Add(nil), api.OK, 4, true)
	down(d)
	is(t, "without power", l, api.OK, api.OK, 4, true)
}

// P17.3: of a file that is gone the error of safe.Append is told, and Rotate makes it anew.
func TestFileGone(t *testing.T) {
	d := disk(1000, fileOf(items("a")))
	l := opens(t, d, items("a"))
	d.Unlink("x")
	is(t, "Add", l, l.Add(nil), api.ErrNone, 1, true)
	is(t, "Rotate", l, l.Rotate(items("b")), api.OK, 1, true)
	is(t, "Add behind it", l, l.Add(nil), api.OK, 2, true)
	opens(t, d, items("b"), nil)
}

// P17.5: what is handed in stays, to the end of its memory, and isn't kept; what Open answers isn't what the log keeps.
func TestLogMemory(t *testing.T) {
	d := vdisk.New(nil, 1000)
	l := opens(t, d)
	memory := []byte("onetwo")
	list := [][]byte{memory[:3], memory[3:5], []byte("behind")}
	for _, call := range []func([][]byte) api.Errno{l.Add, l.Rotate, l.Add} {
		if e := call(list[:2]); e != api.OK {
			t.Fatal(e)
		}
		if string(memory) != "onetwo" || string(list[2]) != "behind" {
			t.Errorf("%q %q", memory, list)
		}
		copy(memory, "xxxxxx")
		is(t, "written over", l, api.OK, api.OK, l.Len(), true)
		copy(memory, "onetwo")
	}
	l, txs, _ := Open(d, "x")
	for i := range txs {
		for _, x := range txs[i].Items {
			clear(x[:cap(x)])
		}
		txs[i] = api.Tx{}
	}
	is(t, "what was answered is written over", l, l.Add(items("b")), api.OK, 3, true)
	opens(t, d, items("one", "tw"), items("one", "tw"), items("b"))
}
