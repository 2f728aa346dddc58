package vdisk

import (
	"math"
	"slices"
	"testing"

	"pigeonhole/api"
)

// P4.3: Read and Size: bytes that are sure and that aren't; no file; no power.
func TestRead(t *testing.T) {
	d := disk(t, 9, file1("a", "12"), file1("b", ""))
	all(t, d.Append("a", []byte("34")))
	has(t, d, "a 1234", "b ")
	for _, name := range []string{"", "c", "A"} {
		b, e := d.Read(name)
		n, f := d.Size(name)
		if e != api.ErrNone || f != api.ErrNone || len(b) != 0 || n != 0 {
			t.Errorf("%q: %q %d, %d %d", name, b, e, n, f)
		}
	}
}

// P4.3: ReadAt.
func TestReadAt(t *testing.T) {
	d := disk(t, 9, file1("a", "12"), file1("b", ""))
	all(t, d.Append("a", []byte("345")))
	for _, c := range []struct {
		name  string
		at, n int
		want  string
		e     api.Errno
	}{
		{"a", 0, 5, "12345", api.OK}, {"a", 0, 0, "", api.OK}, {"a", 5, 0, "", api.OK}, {"a", 1, 3, "234", api.OK}, {"a", 4, 1, "5", api.OK}, {"b", 0, 0, "", api.OK},
		{"a", 0, 6, "", api.ErrShort}, {"a", 5, 1, "", api.ErrShort}, {"a", 6, 0, "", api.ErrShort}, {"a", 1, math.MaxInt, "", api.ErrShort}, {"a", math.MaxInt, 1, "", api.ErrShort}, {"a", math.MaxInt, math.MaxInt, "", api.ErrShort}, {"b", 1, 0, "", api.ErrShort}, {"b", 0, 1, "", api.ErrShort},
		{"a", -1, 1, "", api.ErrArg}, {"a", 0, -1, "", api.ErrArg}, {"a", 9, -1, "", api.ErrArg}, {"a", -1, 9, "", api.ErrArg}, {"a", math.MinInt, 0, "", api.ErrArg}, {"a", 5, math.MinInt, "", api.ErrArg},
		{"c", 0, 0, "", api.ErrNone}, {"c", -1, 0, "", api.ErrNone}, {"", 0, -1, "", api.ErrNone},
	} {
		if b, e := d.ReadAt(c.name, c.at, c.n); string(b) != c.want || e != c.e {
			t.Errorf("%q %d %d: %q %d", c.name, c.at, c.n, b, e)
		}
	}
}

// P4.3: Names rise, byte by byte; Used leaves out files without names.
func TestNamesUsed(t *testing.T) {
	d := disk(t, 99, file1("b", "12"), file1("a", "3"), file1("a-", "4"), file1("9", "5"), file1("a.", "6"), file1("aa", "7"), file1("10", "8"))
	for range 20 {
		if l := d.Names(); !slices.Equal(l, []string{"10", "9", "a", "a-", "a.", "aa", "b"}) {
			t.Errorf("%q", l)
		}
	}
	if d.Used() != 8 {
		t.Errorf("%d used", d.Used())
	}
	all(t, d.Unlink("b"), d.Append("a", []byte("xyz")), d.Rename("9", "10"), d.Pwrite("aa", 0, []byte("9")))
	if d.Used() != 8 || len(d.Names()) != 5 {
		t.Errorf("%d used, %q", d.Used(), d.Names())
	}
	if e := disk(t, 1); len(e.Names()) != 0 || e.Used() != 0 {
		t.Error("no files")
	}
}

// P4.3: Waits: writes of files that are known, though they have no name; of none others.
func TestWaits(t *testing.T) {
	d := disk(t, 99, file1("a", "1"), file1("b", "2"))
	all(t, d.Append("a", []byte("x")), d.Append("a", nil), d.Pwrite("a", 0, nil), d.Append("b", []byte("y")))
	waits(t, d, 0, 4)
	all(t, d.Unlink("a"), d.Create("n"), d.Append("n", []byte("z")), d.Unlink("n"))
	waits(t, d, 3, 5)
	all(t, d.Create("n"))
	waits(t, d, 4, 5)
	all(t, d.SyncDir())
	waits(t, d, 0, 1)
	all(t, d.Append("n", []byte("z")), d.Rename("n", "b"))
	waits(t, d, 1, 2)
	all(t, d.Sync("b"))
	waits(t, d, 1, 1)
	all(t, d.SyncDir())
	waits(t, d, 0, 0)
	has(t, d, "b z")
}

// P4.2, P4.3: what every call answers while the power is gone, and that none of them changes anything.
func TestWhileDown(t *testing.T) {
	d := disk(t, 9, file1("a", "12"))
	all(t, d.Append("a", []byte("3")), d.Create("b"))
	d.Crash(0)
	down := func() []api.Errno {
		_, read := d.Read("a")
		_, readAt := d.ReadAt("a", -1, 0)
		_, size := d.Size("c")
		return []api.Errno{d.Create(""), d.Append("c", make([]byte, 99)), d.Pwrite("a", -1, nil), d.Sync("c"), d.Rename("c", ""), d.Unlink("a"), d.SyncDir(), read, readAt, size}
	}
	// The first of them is the one with which the power goes.
	if e := d.Create("c"); e != api.ErrDown {
		t.Errorf("%d", e)
	}
	for _, e := range down() {
		if e != api.ErrDown {
			t.Errorf("%d", e)
		}
	}
	b, _ := d.Read("a")
	c, _ := d.ReadAt("a", 0, 1)
	n, _ := d.Size("a")
	if len(b) != 0 || len(c) != 0 || n != 0 || len(d.Names()) != 0 || d.Used() != 0 {
		t.Errorf("%q %q %d %q %d", b, c, n, d.Names(), d.Used())
	}
	waits(t, d, 0, 0)
	if !d.Down() || d.Calls() != 3 {
		t.Errorf("%v %d", d.Down(), d.Calls())
	}
	all(t, d.Boot(9, []int{9}))
	has(t, d, "a 123", "b ")
}

// P4.6: what is answered is new memory.
func TestAnsweredIsNew(t *testing.T) {
	d := disk(t, 20, file1("a", "1234"), file1("b", ""))
	spoil := func() {
		b, _ := d.Read("a")
		c, _ := d.ReadAt("a", 1, 2)
		_ = append(c, '!', '!', '!')
		clear(b[:cap(b)])
		clear(c[:cap(c)])
		e, _ := d.Read("b")
		_ = append(e, '!')
		l := d.Names()
		clear(l[:cap(l)])
	}
	spoil()
	has(t, d, "a 1234", "b ")
	all(t, d.Append("a", []byte("5")), d.Append("b", []byte("x")))
	spoil()
	has(t, d, "a 12345", "b x")
	crash(t, d, 0, 1)
	spoil()
	all(t, d.Append("b", []byte("y")), d.Append("a", []byte("6")))
	crash(t, d, 0, 9)
	has(t, d, "a 123456", "b ")
}
