package vdisk

import (
	"math"
	"slices"
	"strconv"
	"strings"
	"testing"

	"pigeonhole/api"
)

// file1 is a file as New takes it.
func file1(name, data string) api.File {
	return api.File{Name: name, Data: []byte(data)}
}

// disk is a disk with files, or the test ends.
func disk(t *testing.T, capacity int, files ...api.File) *Disk {
	t.Helper()
	d := New(files, capacity)
	if d == nil {
		t.Fatalf("no disk of %d files", len(files))
	}
	return d
}

// answers fails, unless each call answers its error.
func answers(t *testing.T, got []api.Errno, want ...api.Errno) {
	t.Helper()
	if !slices.Equal(got, want) {
		t.Errorf("%v, not %v", got, want)
	}
}

// all fails, unless none of the calls answered an error.
func all(t *testing.T, got ...api.Errno) {
	t.Helper()
	for i, e := range got {
		if e != api.OK {
			t.Errorf("call %d: %d", i, e)
		}
	}
}

// has fails, unless a disk has just these files: a name, and bytes behind a blank.
func has(t *testing.T, d *Disk, files ...string) {
	t.Helper()
	var l []string
	used := 0
	for _, name := range d.Names() {
		b, e := d.Read(name)
		n, f := d.Size(name)
		if e != api.OK || f != api.OK || n != len(b) {
			t.Errorf("%q: %d %d, %d of %d bytes", name, e, f, n, len(b))
		}
		used += len(b)
		l = append(l, name+" "+string(b))
	}
	if !slices.Equal(l, files) || d.Used() != used {
		t.Errorf("%q, not %q; %d used, not %d", l, files, d.Used(), used)
	}
}

// waits fails, unless so many turns and writes wait.
func waits(t *testing.T, d *Disk, turns, writes int) {
	t.Helper()
	if n, m := d.Waits(); n != turns || m != writes {
		t.Errorf("%d turns and %d writes wait, not %d and %d", n, m, turns, writes)
	}
}

// crash lets the power go and come again.
func crash(t *testing.T, d *Disk, turns int, keep ...int) {
	t.Helper()
	d.Crash(0)
	if e := d.SyncDir(); e != api.ErrDown || !d.Down() {
		t.Errorf("Crash: %d", e)
	}
	if e := d.Boot(turns, keep); e != api.OK || d.Down() {
		t.Errorf("Boot: %d", e)
	}
}

// many are n files without bytes.
func many(n int) []api.File {
	l := make([]api.File, n)
	for i := range l {
		l[i].Name = strconv.Itoa(i)
	}
	return l
}

// names are texts, and whether each is a name.
func names() map[string]bool {
	m := map[string]bool{"": false, strings.Repeat("a", 32): true, strings.Repeat("a", 33): false, strings.Repeat("z", 1000): false, "a b": false, "é": false, "a.n": true, "c007-00000001": true, "..": true}
	for c := range 256 {
		ok := c >= 'a' && c <= 'z' || c >= '0' && c <= '9' || c == '.' || c == '-'
		m[string([]byte{byte(c)})] = ok
		m["ab"+string([]byte{byte(c)})] = ok
		m[string([]byte{byte(c)})+"ab"] = ok
	}
	return m
}

// P4.1: capacities.
func TestNewCapacity(t *testing.T) {
	for n, ok := range map[int]bool{math.MinInt: false, -1: false, 0: false, 1: true, 2: true, api.MaxDisk - 1: true, api.MaxDisk: true, api.MaxDisk + 1: false, math.MaxInt: false} {
		if d := New(nil, n); (d != nil) != ok {
			t.Errorf("%d: %v", n, d != nil)
		}
	}
	if New([]api.File{file1("a", "")}, 0) != nil || New([]api.File{file1("a", "")}, 1) == nil {
		t.Error("a file without bytes")
	}
}

// P4.1: how many files, and how many bytes.
func TestNewSize(t *testing.T) {
	has(t, disk(t, 1))
	if d := New(many(api.MaxFiles), 1); d == nil || len(d.Names()) != api.MaxFiles {
		t.Error("MaxFiles")
	}
	if New(many(api.MaxFiles+1), api.MaxDisk) != nil {
		t.Error("more than MaxFiles")
	}
	has(t, disk(t, 5, file1("b", "12"), file1("a", "345")), "a 345", "b 12")
	if New([]api.File{file1("b", "12"), file1("a", "345")}, 4) != nil {
		t.Error("more than the capacity")
	}
	if New([]api.File{file1("a", "12345")}, 4) != nil || New([]api.File{file1("a", "1234"), file1("b", "5"), file1("c", "")}, 4) != nil {
		t.Error("more than the capacity")
	}
	if d := New([]api.File{{Name: "a", Data: make([]byte, api.MaxDisk)}}, api.MaxDisk); d == nil || d.Used() != api.MaxDisk {
		t.Error("MaxDisk")
	}
}

// P4.1: names.
func TestNewNames(t *testing.T) {
	for name, ok := range names() {
		if d := New([]api.File{file1("x1", ""), file1(name, "")}, 1); (d != nil) != ok {
			t.Errorf("%q: %v", name, d != nil)
		}
	}
	if New([]api.File{file1("a", ""), file1("b", ""), file1("a", "")}, 9) != nil {
		t.Error("two alike")
	}
}

// P4.1: all of it is sure.
func TestNewIsSure(t *testing.T) {
	d := disk(t, 9, file1("b", "12"), file1("a", "345"), file1("c", ""))
	waits(t, d, 0, 0)
	if d.Calls() != 0 || d.Down() {
		t.Errorf("%d %v", d.Calls(), d.Down())
	}
	crash(t, d, 0)
	has(t, d, "a 345", "b 12", "c ")
}

// P4.2: Create.
func TestCreate(t *testing.T) {
	d := disk(t, 9, file1("b", "12"))
	answers(t, []api.Errno{d.Create("a"), d.Create("a"), d.Create("b"), d.Create("B"), d.Create("")}, api.OK, api.ErrThere, api.ErrThere, api.ErrForm, api.ErrForm)
	has(t, d, "a ", "b 12")
	waits(t, d, 1, 0)
	for name, ok := range names() {
		d, want := disk(t, 9), api.ErrForm
		if ok {
			want = api.OK
		}
		if e := d.Create(name); e != want || len(d.Names()) > 0 != ok {
			t.Errorf("%q: %d", name, e)
		}
	}
}

// P4.2: Create, where there are as many names as there may be; errors in their order.
func TestCreateFull(t *testing.T) {
	d := disk(t, 9, many(api.MaxFiles-1)...)
	answers(t, []api.Errno{d.Create("a"), d.Create("b"), d.Create("a"), d.Create("A"), d.Rename("a", "b"), d.Create("a"), d.Unlink("b"), d.Create("a")}, api.OK, api.ErrFull, api.ErrThere, api.ErrForm, api.OK, api.ErrFull, api.OK, api.OK)
	if len(d.Names()) != api.MaxFiles {
		t.Errorf("%d names", len(d.Names()))
	}
	waits(t, d, 4, 0)
	crash(t, d, 4)
	answers(t, []api.Errno{d.Create("b"), d.Unlink("7"), d.Create("b"), d.Create("c")}, api.ErrFull, api.OK, api.OK, api.ErrFull)
}

// P4.2: Append.
func TestAppend(t *testing.T) {
	d := disk(t, 6, file1("a", "12"), file1("b", ""))
	answers(t, []api.Errno{d.Append("c", []byte("x")), d.Append("", nil), d.Append("A", nil), d.Append("c", make([]byte, 9))}, api.ErrNone, api.ErrNone, api.ErrNone, api.ErrNone)
	waits(t, d, 0, 0)
	answers(t, []api.Errno{d.Append("a", []byte("345")), d.Append("b", []byte("xy")), d.Append("b", []byte("x")), d.Append("a", []byte("6")), d.Append("a", nil)}, api.OK, api.ErrSpace, api.OK, api.ErrSpace, api.OK)
	has(t, d, "a 12345", "b x")
	waits(t, d, 0, 3)
	all(t, d.Unlink("b"), d.Append("a", []byte("6")))
	has(t, d, "a 123456")
}

// P4.2: Pwrite.
func TestPwrite(t *testing.T) {
	d := disk(t, 6, file1("a", "123"), file1("b", "x"))
	for _, at := range []int{-1, 4, 5, math.MinInt, math.MaxInt} {
		answers(t, []api.Errno{d.Pwrite("a", at, nil), d.Pwrite("a", at, []byte("too many")), d.Pwrite("c", at, nil)}, api.ErrArg, api.ErrArg, api.ErrNone)
	}
	answers(t, []api.Errno{d.Pwrite("c", 0, nil), d.Pwrite("", 0, nil), d.Pwrite("a", 0, []byte("123456")), d.Pwrite("a", 3, []byte("456"))}, api.ErrNone, api.ErrNone, api.ErrSpace, api.ErrSpace)
	has(t, d, "a 123", "b x")
	waits(t, d, 0, 0)
	for _, c := range []struct {
		at      int
		b, want string
	}{
		{0, "", "123"}, {3, "", "123"}, {0, "a", "a23"}, {1, "b", "ab3"}, {2, "cd", "abcd"}, {0, "wxyz", "wxyz"}, {4, "5", "wxyz5"}, {3, "-", "wxy-5"},
	} {
		all(t, d.Pwrite("a", c.at, []byte(c.b)))
		has(t, d, "a "+c.want, "b x")
	}
	answers(t, []api.Errno{d.Pwrite("a", 5, []byte("6")), d.Pwrite("a", 5, nil), d.Pwrite("a", 0, []byte("12345"))}, api.ErrSpace, api.OK, api.OK)
	has(t, d, "a 12345", "b x")
	waits(t, d, 0, 10)
}

// P4.2: where there are more bytes than the capacity already, no write is done, nor one of no bytes.
func TestSpaceBehindCrash(t *testing.T) {
	d := disk(t, 4, file1("a", "1234"))
	all(t, d.Create("b"), d.Unlink("a"), d.Append("b", []byte("xyz")))
	crash(t, d, 1, 9)
	has(t, d, "a 1234", "b xyz")
	answers(t, []api.Errno{d.Append("a", nil), d.Append("b", []byte("x")), d.Pwrite("a", 0, []byte("x")), d.Pwrite("a", 4, nil), d.Pwrite("a", 5, nil)}, api.ErrSpace, api.ErrSpace, api.ErrSpace, api.ErrSpace, api.ErrArg)
	waits(t, d, 0, 0)
	answers(t, []api.Errno{d.Create("c"), d.Append("c", nil), d.Rename("b", "d"), d.Sync("a"), d.SyncDir(), d.Unlink("a"), d.Append("d", []byte("z"))}, api.OK, api.ErrSpace, api.OK, api.OK, api.OK, api.OK, api.OK)
	has(t, d, "c ", "d xyzz")
}

// P4.2: Sync.
func TestSync(t *testing.T) {
	d := disk(t, 9, file1("a", "12"), file1("b", "x"))
	answers(t, []api.Errno{d.Append("a", []byte("34")), d.Pwrite("a", 0, []byte("-")), d.Append("b", []byte("y")), d.Sync("c"), d.Sync(""), d.Sync("a")}, api.OK, api.OK, api.OK, api.ErrNone, api.ErrNone, api.OK)
	waits(t, d, 0, 1)
	all(t, d.Append("a", []byte("5")))
	waits(t, d, 0, 2)
	has(t, d, "a -2345", "b xy")
	crash(t, d, 0)
	has(t, d, "a -234", "b x")
}

// P4.2: Rename.
func TestRename(t *testing.T) {
	d := disk(t, 9, file1("a", "1"), file1("b", "2"))
	answers(t, []api.Errno{d.Rename("c", "d"), d.Rename("c", "D"), d.Rename("a", ""), d.Rename("a", strings.Repeat("a", 33)), d.Rename("", "d"), d.Rename("c", "c"), d.Rename("", "")}, api.ErrNone, api.ErrForm, api.ErrForm, api.ErrForm, api.ErrNone, api.ErrNone, api.ErrForm)
	has(t, d, "a 1", "b 2")
	waits(t, d, 0, 0)
	all(t, d.Rename("a", "a"))
	has(t, d, "a 1", "b 2")
	waits(t, d, 1, 0)
	all(t, d.Rename("a", strings.Repeat("a", 32)), d.Rename(strings.Repeat("a", 32), "b"))
	has(t, d, "b 1")
	waits(t, d, 3, 0)
	answers(t, []api.Errno{d.Rename("a", "c"), d.Append("b", []byte("x")), d.Create("a")}, api.ErrNone, api.OK, api.OK)
	has(t, d, "a ", "b 1x")
	for name, ok := range names() {
		d, want := disk(t, 9, file1("x1", "")), api.ErrForm
		if ok {
			want = api.OK
		}
		if e := d.Rename("x1", name); e != want || slices.Equal(d.Names(), []string{name}) != ok {
			t.Errorf("%q: %d", name, e)
		}
	}
}

// P4.2: Unlink.
func TestUnlink(t *testing.T) {
	d := disk(t, 9, file1("a", "1"), file1("b", "2"))
	answers(t, []api.Errno{d.Unlink("c"), d.Unlink(""), d.Unlink("A"), d.Unlink("a"), d.Unlink("a"), d.Append("a", nil), d.Sync("a")}, api.ErrNone, api.ErrNone, api.ErrNone, api.OK, api.ErrNone, api.ErrNone, api.ErrNone)
	has(t, d, "b 2")
	waits(t, d, 1, 0)
	all(t, d.Create("a"))
	has(t, d, "a ", "b 2")
}

// P4.2: SyncDir.
func TestSyncDir(t *testing.T) {
	d := disk(t, 9, file1("a", "1"), file1("b", "2"))
	all(t, d.Unlink("a"), d.Create("c"), d.Rename("b", "a"), d.SyncDir())
	waits(t, d, 0, 0)
	all(t, d.Unlink("c"), d.Create("z"))
	waits(t, d, 2, 0)
	crash(t, d, 0)
	has(t, d, "a 2", "c ")
}

// R4, P4.6: what is handed in stays, isn't kept, and isn't read behind its length.
func TestHandedInStays(t *testing.T) {
	data := []byte("12345")
	files := []api.File{{Name: "a", Data: data[:2]}, file1("b", "x")}
	d := disk(t, 20, files...)
	data[0], files[1].Name, files[1].Data[0] = '-', "c", '-'
	has(t, d, "a 12", "b x")
	b := []byte("xyz!")
	all(t, d.Append("a", b[:3]), d.Pwrite("a", 0, b[:1]), d.Append("b", b[:3]))
	if string(b) != "xyz!" || string(data) != "-2345" {
		t.Errorf("%q %q", b, data)
	}
	clear(b)
	has(t, d, "a x2xyz", "b xxyz")
	keep := []int{1, 1, -7, 9}
	crash(t, d, 0, keep[:3]...)
	if !slices.Equal(keep, []int{1, 1, -7, 9}) {
		t.Errorf("%v", keep)
	}
	has(t, d, "a x2x", "b x")
}
