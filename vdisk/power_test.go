package vdisk

import (
	"math"
	"slices"
	"testing"

	"pigeonhole/api"
)

// answersIn are what so many calls that change answer, one behind the other.
func answersIn(d *Disk, n int) []api.Errno {
	var l []api.Errno
	for range n {
		l = append(l, d.Sync("a"))
	}
	return l
}

// P4.4: the call behind after more ones answers the error, once.
func TestFail(t *testing.T) {
	const ok = api.OK
	for after, want := range map[int][]api.Errno{0: {7, ok, ok, ok}, 1: {ok, 7, ok, ok}, 3: {ok, ok, ok, 7}, 4: {ok, ok, ok, ok}, -1: {ok, ok, ok, ok}, math.MinInt: {ok, ok, ok, ok}, math.MaxInt: {ok, ok, ok, ok}} {
		d := disk(t, 9, file1("a", ""))
		all(t, answersIn(d, 3)...)
		d.Fail(after, 7)
		answers(t, answersIn(d, 4), want...)
		if d.Calls() != 7 {
			t.Errorf("%d calls", d.Calls())
		}
	}
}

// P4.4: which errors; the last Fail holds.
func TestFailErrors(t *testing.T) {
	for e, want := range map[api.Errno]api.Errno{api.OK: api.OK, api.ErrDown: api.OK, api.ErrSpace: api.ErrSpace, api.ErrLoop: api.ErrLoop, -1: -1, 99: 99, math.MinInt: math.MinInt} {
		d := disk(t, 9, file1("a", ""))
		d.Fail(0, e)
		answers(t, answersIn(d, 3), want, api.OK, api.OK)
		// None fails, though one was to.
		d.Fail(0, api.ErrArg)
		d.Fail(0, e)
		answers(t, answersIn(d, 3), want, api.OK, api.OK)
	}
	d := disk(t, 9, file1("a", ""))
	d.Fail(0, api.ErrArg)
	d.Fail(1, api.ErrFull)
	answers(t, answersIn(d, 3), api.OK, api.ErrFull, api.OK)
	d.Fail(0, api.ErrArg)
	d.Fail(-1, api.ErrFull)
	answers(t, answersIn(d, 3), api.OK, api.OK, api.OK)
	// Not for want of power, either.
	d.Fail(0, api.ErrDown)
	all(t, answersIn(d, 1)...)
	if d.Down() {
		t.Error("the power went")
	}
}

// P4.2, P4.4: each call that changes fails, ahead of its own errors, and changes nothing; others aren't counted.
func TestFailEachCall(t *testing.T) {
	d := disk(t, 9, file1("a", "12"))
	for i, call := range []func() api.Errno{
		func() api.Errno { return d.Create("b") },
		func() api.Errno { return d.Create("") },
		func() api.Errno { return d.Append("a", []byte("3")) },
		func() api.Errno { return d.Append("c", nil) },
		func() api.Errno { return d.Pwrite("a", 0, []byte("3")) },
		func() api.Errno { return d.Pwrite("a", -1, nil) },
		func() api.Errno { return d.Sync("a") },
		func() api.Errno { return d.Sync("c") },
		func() api.Errno { return d.Rename("a", "b") },
		func() api.Errno { return d.Rename("a", "") },
		func() api.Errno { return d.Unlink("a") },
		func() api.Errno { return d.Unlink("c") },
		func() api.Errno { return d.SyncDir() },
	} {
		d.Fail(0, api.ErrBroken)
		has(t, d, "a 12")
		d.ReadAt("a", 0, 1)
		d.Crash(-1)
		if d.Boot(0, nil) != api.ErrBusy || d.Down() {
			t.Error("Boot")
		}
		if e := call(); e != api.ErrBroken || d.Calls() != i+1 {
			t.Errorf("%d: %d, %d calls", i, e, d.Calls())
		}
		has(t, d, "a 12")
		waits(t, d, 0, 0)
	}
	// Sync and SyncDir that fail make nothing sure.
	all(t, d.Append("a", []byte("3")), d.Create("b"))
	d.Fail(0, api.ErrBroken)
	answers(t, []api.Errno{d.Sync("a")}, api.ErrBroken)
	d.Fail(0, api.ErrBroken)
	answers(t, []api.Errno{d.SyncDir()}, api.ErrBroken)
	waits(t, d, 1, 1)
	crash(t, d, 0)
	has(t, d, "a 12")
}

// P4.4: calls that answer errors are counted too.
func TestCountsRefused(t *testing.T) {
	d := disk(t, 9, file1("a", "12"))
	d.Fail(7, api.ErrBusy)
	answers(t, []api.Errno{d.Create(""), d.Append("c", nil), d.Pwrite("a", 3, nil), d.Sync("c"), d.Rename("c", "d"), d.Unlink("c"), d.SyncDir(), d.SyncDir()}, api.ErrForm, api.ErrNone, api.ErrArg, api.ErrNone, api.ErrNone, api.ErrNone, api.OK, api.ErrBusy)
	if d.Calls() != 8 {
		t.Errorf("%d calls", d.Calls())
	}
}

// P4.4: the power goes with the call behind after more ones.
func TestCrash(t *testing.T) {
	const ok, gone = api.OK, api.ErrDown
	for after, want := range map[int][]api.Errno{0: {gone, gone, gone}, 1: {ok, gone, gone}, 2: {ok, ok, gone}, 3: {ok, ok, ok}, -1: {ok, ok, ok}, math.MinInt: {ok, ok, ok}, math.MaxInt: {ok, ok, ok}} {
		d := disk(t, 9, file1("a", ""))
		d.Crash(after)
		if d.Down() {
			t.Errorf("%d: at once", after)
		}
		answers(t, answersIn(d, 3), want...)
		calls := 3
		if after >= 0 && after < 3 {
			calls = after + 1
		}
		if d.Down() != (want[2] == gone) || d.Calls() != calls {
			t.Errorf("%d: %v, %d calls", after, d.Down(), d.Calls())
		}
	}
	d := disk(t, 9, file1("a", ""))
	d.Crash(0)
	d.Crash(1)
	answers(t, answersIn(d, 2), ok, gone)
	d = disk(t, 9, file1("a", ""))
	d.Crash(0)
	d.Crash(-1)
	answers(t, answersIn(d, 2), ok, ok)
}

// P4.2, P4.4: the power goes ahead of a failure, and with a call that would be refused; that call changes nothing.
func TestCrashEachCall(t *testing.T) {
	for i, call := range []func(d *Disk) api.Errno{
		func(d *Disk) api.Errno { return d.Create("b") },
		func(d *Disk) api.Errno { return d.Create("") },
		func(d *Disk) api.Errno { return d.Append("a", []byte("3")) },
		func(d *Disk) api.Errno { return d.Pwrite("a", 0, []byte("3")) },
		func(d *Disk) api.Errno { return d.Pwrite("a", -1, nil) },
		func(d *Disk) api.Errno { return d.Sync("a") },
		func(d *Disk) api.Errno { return d.Rename("a", "b") },
		func(d *Disk) api.Errno { return d.Unlink("a") },
		func(d *Disk) api.Errno { return d.Unlink("c") },
		func(d *Disk) api.Errno { return d.SyncDir() },
	} {
		d := disk(t, 9, file1("a", "12"))
		d.Fail(0, api.ErrFull)
		d.Crash(0)
		if e := call(d); e != api.ErrDown || !d.Down() || d.Calls() != 1 {
			t.Errorf("%d: %d, %v, %d calls", i, e, d.Down(), d.Calls())
		}
		all(t, d.Boot(9, []int{9, 9}))
		has(t, d, "a 12")
		waits(t, d, 0, 0)
		// Nor are Sync and SyncDir done.
		d = disk(t, 9, file1("a", "12"))
		all(t, d.Append("a", []byte("3")), d.Create("z"))
		d.Crash(0)
		if e := call(d); e != api.ErrDown {
			t.Errorf("%d: %d", i, e)
		}
		all(t, d.Boot(0, nil))
		has(t, d, "a 12")
	}
}

// P4.4, P4.5: Boot while the power is there; what was armed is armed no more; Calls goes on.
func TestBootDisarms(t *testing.T) {
	d := disk(t, 9, file1("a", ""))
	answers(t, []api.Errno{d.Boot(0, nil), d.Append("a", []byte("1")), d.Boot(0, nil)}, api.ErrBusy, api.OK, api.ErrBusy)
	has(t, d, "a 1")
	waits(t, d, 0, 1)
	d.Fail(1, api.ErrFull)
	d.Crash(0)
	answers(t, answersIn(d, 1), api.ErrDown)
	d.Fail(0, api.ErrFull)
	d.Crash(0)
	answers(t, []api.Errno{d.Boot(0, nil), d.Boot(0, nil)}, api.OK, api.ErrBusy)
	all(t, answersIn(d, 3)...)
	if d.Down() || d.Calls() != 5 {
		t.Errorf("%v, %d calls", d.Down(), d.Calls())
	}
	// Boot that is refused leaves armed what is.
	d.Fail(0, api.ErrFull)
	d.Crash(1)
	answers(t, []api.Errno{d.Boot(0, nil), d.SyncDir(), d.SyncDir()}, api.ErrBusy, api.ErrFull, api.ErrDown)
}

// P4.5: the first turns are kept: each count of them.
func TestBootTurns(t *testing.T) {
	for turns, want := range map[int][]string{
		math.MinInt: {"a 1", "b 2"}, -1: {"a 1", "b 2"}, 0: {"a 1", "b 2"}, 1: {"a 1", "b 2", "n xyz"}, 2: {"a 1", "b 2", "n xyz"}, 3: {"b 2", "n xyz"}, 4: {"b 2", "c xyz"}, 5: {"b xyz"}, 6: {"b xyz", "c "}, 7: {"c "}, 8: {"c "}, math.MaxInt: {"c "},
	} {
		d := disk(t, 99, file1("a", "1"), file1("b", "2"))
		all(t, d.Create("n"), d.Append("n", []byte("xyz")), d.Rename("n", "n"), d.Unlink("a"), d.Rename("n", "c"), d.Rename("c", "b"), d.Sync("b"), d.Create("c"), d.Unlink("b"))
		has(t, d, "c ")
		waits(t, d, 7, 0)
		crash(t, d, turns)
		has(t, d, want...)
		waits(t, d, 0, 0)
		// All that is there is sure, and nothing else.
		crash(t, d, 9, 9, 9)
		has(t, d, want...)
	}
}

// P4.5: turns that SyncDir made sure wait no more.
func TestBootTurnsBehindSyncDir(t *testing.T) {
	d := disk(t, 99)
	all(t, d.Create("a"), d.SyncDir(), d.Create("b"), d.Unlink("a"), d.Create("a"), d.Append("a", []byte("x")), d.Sync("a"))
	crash(t, d, 1)
	has(t, d, "a ", "b ")
}

// P4.5: of each write its first bytes are kept, alone, where they were put.
func TestBootWrites(t *testing.T) {
	for _, c := range []struct {
		keep []int
		want string
	}{
		{nil, "abc"}, {[]int{0, 0, 0, 0}, "abc"}, {[]int{1}, "abcd"}, {[]int{3}, "abcdef"}, {[]int{4}, "abcdef"}, {[]int{math.MaxInt}, "abcdef"}, {[]int{-1}, "abc"}, {[]int{math.MinInt}, "abc"},
		{[]int{0, 1}, "a1c"}, {[]int{0, 2}, "a12"}, {[]int{0, 4}, "a1234"}, {[]int{2, 2}, "a12de"}, {[]int{2, 4}, "a1234"}, {[]int{3, 4}, "a1234f"},
		{[]int{0, 0, 1}, "abc\x00\x00\x00x"}, {[]int{2, 0, 2}, "abcde\x00xy"}, {[]int{0, 3, 3}, "a123\x00\x00xyz"}, {[]int{3, 0, 3}, "abcdefxyz"},
		{[]int{0, 0, 0, 1}, "abc\x00\x00!"}, {[]int{0, 0, 1, 1}, "abc\x00\x00!x"}, {[]int{3, 4, 3, 1}, "a1234!xyz"}, {[]int{9, 9, 9, 9, 9, 9}, "a1234!xyz"}, {[]int{-1, -1, -1, 1}, "abc\x00\x00!"},
	} {
		d := disk(t, 99, file1("f", "abc"))
		all(t, d.Append("f", []byte("def")), d.Pwrite("f", 1, []byte("1234")), d.Append("f", []byte("xyz")), d.Pwrite("f", 5, []byte("!")))
		has(t, d, "f a1234!xyz")
		waits(t, d, 0, 4)
		crash(t, d, 0, c.keep...)
		has(t, d, "f "+c.want)
		waits(t, d, 0, 0)
		// What is there goes on from there, and is sure.
		all(t, d.Append("f", []byte("+")))
		has(t, d, "f "+c.want+"+")
		crash(t, d, 0)
		has(t, d, "f "+c.want)
	}
}

// P4.5: a write without bytes has its place among the others, but leaves nothing.
func TestBootWritesEmpty(t *testing.T) {
	d := disk(t, 99, file1("f", "abc"))
	all(t, d.Append("f", []byte("def")), d.Append("f", nil), d.Pwrite("f", 6, nil), d.Append("f", []byte("x")))
	waits(t, d, 0, 4)
	crash(t, d, 0, 1, 9, 9)
	has(t, d, "f abcd")
	all(t, d.Append("f", []byte("ef")), d.Append("f", nil), d.Append("f", []byte("x")))
	crash(t, d, 0, 2, 0, 1)
	has(t, d, "f abcdefx")
}

// P4.5: writes are counted file by file in the order in which the files were made, whatever their names.
func TestBootOrderOfFiles(t *testing.T) {
	for i, want := range []string{"d", "b", "c", "a"} {
		d := disk(t, 99, file1("d", ""), file1("b", ""))
		all(t, d.Create("c"), d.Create("a"), d.SyncDir())
		for _, name := range []string{"a", "b", "c", "d"} {
			all(t, d.Append(name, []byte("1")))
		}
		keep := make([]int, 4)
		keep[i] = 1
		crash(t, d, 0, keep...)
		if n, _ := d.Size(want); n != 1 || d.Used() != 1 {
			t.Errorf("%d: %q", i, want)
		}
	}
	// A renamed file, and one that a crash brought back, keep their places.
	d := disk(t, 99, file1("d", ""), file1("b", ""))
	all(t, d.Create("a"), d.Rename("d", "z"), d.SyncDir(), d.Unlink("b"))
	crash(t, d, 0)
	all(t, d.Append("a", []byte("a")), d.Append("b", []byte("b")), d.Append("z", []byte("z")))
	crash(t, d, 0, 1, 0, 1)
	has(t, d, "a a", "b ", "z z")
}

// P4.5: all writes of one file come ahead of those of the next one, each file's in their order.
func TestBootOrderOfWrites(t *testing.T) {
	d := disk(t, 99, file1("a", ""), file1("b", ""))
	all(t, d.Append("b", []byte("1")), d.Append("a", []byte("2")), d.Append("b", []byte("3")), d.Append("a", []byte("4")), d.Pwrite("b", 0, []byte("5")))
	crash(t, d, 0, 1, 0, 1, 1, 0)
	has(t, d, "a 2", "b 13")
}

// P4.5: files without a name that are known have their writes among the others; those that are gone haven't.
func TestBootKnown(t *testing.T) {
	build := func() *Disk {
		d := disk(t, 99, file1("a", ""), file1("b", ""), file1("c", ""))
		all(t, d.Append("a", []byte("1")), d.Unlink("a"), d.Append("b", []byte("2")), d.Create("n"), d.Append("n", []byte("3")), d.Unlink("n"), d.Append("c", []byte("4")))
		return d
	}
	d := build()
	waits(t, d, 3, 4)
	crash(t, d, 0, 1, 0, 1, 0)
	has(t, d, "a 1", "b ", "c 4")
	d = build()
	crash(t, d, 2, 0, 0, 0, 1)
	has(t, d, "b ", "c ", "n 3")
	// With SyncDir a and n are gone.
	d = build()
	all(t, d.SyncDir())
	waits(t, d, 0, 2)
	crash(t, d, 0, 0, 1)
	has(t, d, "b ", "c 4")
	// A file that another one took the name of.
	d = disk(t, 99, file1("a", "-"), file1("b", "+"))
	all(t, d.Append("b", []byte("2")), d.Append("a", []byte("1")), d.Rename("b", "a"), d.Append("a", []byte("3")))
	waits(t, d, 1, 3)
	crash(t, d, 0, 1, 0, 1)
	has(t, d, "a -1", "b +\x003")
}

// P4.5: a sure file whose name isn't is there with its name alone; the document's example.
func TestBootExample(t *testing.T) {
	for turns, want := range [][]string{nil, {"a xyz"}} {
		d := disk(t, 99)
		all(t, d.Create("a"), d.Append("a", []byte("xyz")), d.Sync("a"))
		crash(t, d, turns)
		has(t, d, want...)
	}
	// And a sure name whose file isn't.
	d := disk(t, 99)
	all(t, d.Create("a"), d.Append("a", []byte("xyz")), d.SyncDir())
	crash(t, d, 9)
	has(t, d, "a ")
}

// P4.5: a Create makes the name again of the file that it made, which may have had its bytes under another name.
func TestBootCreateAgain(t *testing.T) {
	d := disk(t, 99)
	all(t, d.Create("a"), d.Rename("a", "b"), d.Create("a"), d.Append("b", []byte("b")), d.Sync("b"), d.Append("a", []byte("a")), d.Sync("a"))
	crash(t, d, 1)
	has(t, d, "a b")
}

// P4.5: a crash behind a crash.
func TestBootTwice(t *testing.T) {
	d := disk(t, 99, file1("a", "12"))
	all(t, d.Append("a", []byte("34")), d.Create("b"))
	crash(t, d, 1, 1)
	all(t, d.Append("b", []byte("xy")), d.Pwrite("a", 0, []byte("ABC")))
	crash(t, d, 0, 2, 1)
	has(t, d, "a AB3", "b x")
	if l := d.Names(); !slices.Equal(l, []string{"a", "b"}) {
		t.Errorf("%q", l)
	}
}
