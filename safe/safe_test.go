package safe

import (
	"fmt"
	"strings"
	"testing"

	"pigeonhole/api"
	"pigeonhole/vdisk"
)

// disk is a disk with files, told as "name=bytes".
func disk(room int, told ...string) *vdisk.Disk {
	var fs []api.File
	for _, s := range told {
		name, data, _ := strings.Cut(s, "=")
		fs = append(fs, api.File{Name: name, Data: []byte(data)})
	}
	return vdisk.New(fs, room)
}

// is looks at what a call answered, how many calls of the disk were made, and which files are there.
func is(t *testing.T, what string, d *vdisk.Disk, got, want api.Errno, calls int, there string) {
	t.Helper()
	if got != want {
		t.Errorf("%s: %d, not %d", what, got, want)
	}
	if d.Calls() != calls {
		t.Errorf("%s: %d calls, not %d", what, d.Calls(), calls)
	}
	if s := files(d); s != there {
		t.Errorf("%s: %q, not %q", what, s, there)
	}
}

// sure looks whether all that is there is sure.
func sure(t *testing.T, what string, d *vdisk.Disk) {
	t.Helper()
	before := files(d)
	if turns, writes := d.Waits(); turns != 0 || writes != 0 {
		t.Errorf("%s: %d turns and %d writes wait", what, turns, writes)
	}
	d.Crash(0)
	d.SyncDir()
	d.Boot(0, nil)
	if after := files(d); after != before {
		t.Errorf("%s: %q behind a crash, %q ahead of it", what, after, before)
	}
}

// down is a disk whose power is gone.
func down(told ...string) *vdisk.Disk {
	d := disk(100, told...)
	d.Crash(0)
	d.SyncDir()
	return d
}

// P16.1, P16.5: Append puts bytes behind those of a file by two calls; then they are sure.
func TestAppend(t *testing.T) {
	d := disk(10, "a=old")
	is(t, "Append", d, Append(d, "a", []byte("new")), api.OK, 2, "a=oldnew")
	sure(t, "Append", d)
	d = disk(10, "a=old")
	is(t, "Append of nothing", d, Append(d, "a", nil), api.OK, 2, "a=old")
	sure(t, "Append of nothing", d)
}

// P16.1: the error of Append is answered, and ends it.
func TestAppendErrors(t *testing.T) {
	d := disk(10, "a=old")
	is(t, "no file", d, Append(d, "b", []byte("x")), api.ErrNone, 1, "a=old")
	d = disk(10, "a=old")
	is(t, "no name", d, Append(d, "A", []byte("x")), api.ErrNone, 1, "a=old")
	d = disk(10, "a=old")
	is(t, "no room", d, Append(d, "a", []byte("12345678")), api.ErrSpace, 1, "a=old")
	d = disk(10, "a=old")
	d.Fail(0, api.ErrBusy)
	is(t, "Append isn't asked twice", d, Append(d, "a", []byte("x")), api.ErrBusy, 1, "a=old")
	sure(t, "Append isn't asked twice", d)
	d = down("a=old")
	is(t, "without power", d, Append(d, "a", []byte("x")), api.ErrDown, 1, "")
}

// P16.1: Sync is asked twice, and the second answer holds.
func TestAppendSyncTwice(t *testing.T) {
	d := disk(10, "a=old")
	d.Fail(1, api.ErrBusy)
	is(t, "Sync fails", d, Append(d, "a", []byte("new")), api.OK, 3, "a=oldnew")
	sure(t, "Sync fails", d)
	d = disk(10, "a=old")
	d.Fail(1, api.ErrBusy)
	d.Crash(2)
	is(t, "the power goes behind it", d, Append(d, "a", []byte("new")), api.ErrDown, 3, "")
	d = disk(10, "a=old")
	d.Crash(1)
	is(t, "the power goes", d, Append(d, "a", []byte("new")), api.ErrDown, 2, "")
}

// P16.2, P16.5: Make makes a file by four calls; then it is sure.
func TestMake(t *testing.T) {
	d := disk(10, "a=old")
	is(t, "Make", d, Make(d, "b", []byte("new")), api.OK, 4, "a=old b=new")
	sure(t, "Make", d)
	d = disk(10)
	is(t, "Make of nothing", d, Make(d, "b", nil), api.OK, 4, "b=")
	sure(t, "Make of nothing", d)
	long := strings.Repeat("a", 32)
	d = disk(10)
	is(t, "the longest name", d, Make(d, long, []byte("x")), api.OK, 4, long+"=x")
}

// P16.2: a name that is there has ErrThere, and no call is made.
func TestMakeThere(t *testing.T) {
	d := disk(10, "a=old")
	is(t, "there", d, Make(d, "a", []byte("more than there is room for")), api.ErrThere, 0, "a=old")
	d.Crash(0)
	if is(t, "still armed", d, Make(d, "a", nil), api.ErrThere, 0, "a=old"); d.Down() {
		t.Error("the power went with a call that wasn't to be made")
	}
	d = down("a=old")
	is(t, "without power", d, Make(d, "a", nil), api.ErrDown, 1, "")
}

// P16.2: the first error is answered; the file is unlinked, if Create made it.
func TestMakeErrors(t *testing.T) {
	for _, name := range []string{"", "A", strings.Repeat("a", 33)} {
		d := disk(10, "a=old")
		is(t, "no name", d, Make(d, name, nil), api.ErrForm, 1, "a=old")
	}
	d := disk(10, "a=old")
	is(t, "no room", d, Make(d, "b", []byte("12345678")), api.ErrSpace, 3, "a=old")
	d = disk(10, "a=old")
	d.Fail(1, api.ErrBusy)
	is(t, "Append isn't asked twice", d, Make(d, "b", []byte("x")), api.ErrBusy, 3, "a=old")
	d = disk(10, "a=old")
	d.Fail(0, api.ErrBusy)
	is(t, "Create isn't asked twice", d, Make(d, "b", []byte("x")), api.ErrBusy, 1, "a=old")
	many := make([]api.File, api.MaxFiles)
	for i := range many {
		many[i].Name = fmt.Sprint("f", i)
	}
	d = vdisk.New(many, 10)
	if e := Make(d, "b", nil); e != api.ErrFull || d.Calls() != 1 || len(d.Names()) != len(many) {
		t.Errorf("full: %d, %d calls, %d names", e, d.Calls(), len(d.Names()))
	}
}

// P16.2: Sync and SyncDir are asked twice.
func TestMakeTwice(t *testing.T) {
	for _, n := range []int{2, 3} {
		d := disk(10)
		d.Fail(n, api.ErrBusy)
		is(t, fmt.Sprint("call ", n, " fails"), d, Make(d, "b", []byte("new")), api.OK, 5, "b=new")
		sure(t, fmt.Sprint("call ", n, " fails"), d)
	}
}

// P16.2: Unlink is asked twice, and what it answers says nothing.
func TestMakeUnlinkTwice(t *testing.T) {
	d := disk(10)
	d.Fail(2, api.ErrBusy)
	is(t, "Unlink fails", d, Make(d, "b", []byte("more than ten")), api.ErrSpace, 4, "")
	d = disk(10)
	d.Crash(2)
	if is(t, "the power goes with Unlink", d, Make(d, "b", []byte("more than ten")), api.ErrSpace, 3, ""); !d.Down() {
		t.Error("the power didn't go")
	}
	d = disk(10)
	d.Fail(2, api.ErrBusy)
	d.Crash(3)
	if is(t, "the power goes with the second Unlink", d, Make(d, "b", []byte("more than ten")), api.ErrSpace, 4, ""); !d.Down() {
		t.Error("the power didn't go")
	}
}

// P16.3, P16.5: Swap puts a file in the place of one, or of none, by five calls; then it is sure.
func TestSwap(t *testing.T) {
	d := disk(10, "a=old")
	is(t, "Swap", d, Swap(d, "a", []byte("new!")), api.OK, 5, "a=new!")
	sure(t, "Swap", d)
	d = disk(10, "b=old")
	is(t, "Swap of a file that isn't there", d, Swap(d, "a", []byte("new!")), api.OK, 5, "a=new! b=old")
	sure(t, "Swap of a file that isn't there", d)
	d = disk(10, "a=old")
	is(t, "Swap of nothing", d, Swap(d, "a", nil), api.OK, 5, "a=")
	sure(t, "Swap of nothing", d)
}

// P16.3: a name of more than 30 bytes has ErrForm, ahead of all else, and no call is made.
func TestSwapLong(t *testing.T) {
	a30 := strings.Repeat("a", 30)
	d := disk(10, a30+"=old")
	is(t, "30 bytes", d, Swap(d, a30, []byte("new")), api.OK, 5, a30+"=new")
	d = disk(10, a30+"a=old")
	is(t, "31 bytes", d, Swap(d, a30+"a", []byte("new")), api.ErrForm, 0, a30+"a=old")
	d = disk(10)
	is(t, "31 bytes that are no name", d, Swap(d, strings.Repeat("/", 31), nil), api.ErrForm, 0, "")
	d = down()
	is(t, "31 bytes without power", d, Swap(d, a30+"a", nil), api.ErrForm, 1, "")
	is(t, "30 bytes without power", d, Swap(d, a30, nil), api.ErrDown, 1, "")
}

// P16.3: a new name that is there is unlinked first, and the error of that is answered.
func TestSwapLeft(t *testing.T) {
	d := disk(10, "a=old", "a.n=left")
	is(t, "left", d, Swap(d, "a", []byte("newer!")), api.OK, 6, "a=newer!")
	sure(t, "left", d)
	d = disk(10, "a=old", "a.n=left")
	d.Fail(0, api.ErrBusy)
	is(t, "Unlink isn't asked twice", d, Swap(d, "a", []byte("new")), api.ErrBusy, 1, "a=old a.n=left")
	sure(t, "Unlink isn't asked twice", d)
	d = disk(10, "a=old", "a.n=left")
	d.Crash(0)
	is(t, "the power goes", d, Swap(d, "a", []byte("new")), api.ErrDown, 1, "")
	d = disk(10, "a=old", "a.n=left")
	is(t, "no room", d, Swap(d, "a", []byte("12345678")), api.ErrSpace, 4, "a=old")
}

// P16.3: the first error is answered, and the file under the new name is unlinked.
func TestSwapErrors(t *testing.T) {
	d := disk(10, "a=old")
	is(t, "no room", d, Swap(d, "a", []byte("12345678")), api.ErrSpace, 3, "a=old")
	d = disk(10, "a=old")
	is(t, "no name", d, Swap(d, "A", []byte("x")), api.ErrForm, 1, "a=old")
	// Of the empty name the new one is a name: it is Rename that answers the error.
	d = disk(10, "a=old")
	is(t, "the empty name", d, Swap(d, "", []byte("x")), api.ErrForm, 5, "a=old")
	for n, calls := range []int{1, 3, 6, 5, 6} {
		d = disk(10, "a=old")
		d.Fail(n, api.ErrBusy)
		want, there := api.ErrBusy, "a=old"
		if calls == 6 {
			want, there = api.OK, "a=new"
		}
		is(t, fmt.Sprint("call ", n, " fails"), d, Swap(d, "a", []byte("new")), want, calls, there)
	}
}

// P16.3: Unlink at the end is asked twice, and what it answers says nothing.
func TestSwapUnlinkTwice(t *testing.T) {
	d := disk(10, "a=old")
	d.Fail(2, api.ErrBusy)
	is(t, "Unlink fails", d, Swap(d, "a", []byte("12345678")), api.ErrSpace, 4, "a=old")
	d = disk(10, "a=old")
	d.Crash(2)
	if is(t, "the power goes with Unlink", d, Swap(d, "a", []byte("12345678")), api.ErrSpace, 3, ""); !d.Down() {
		t.Error("the power didn't go")
	}
}

// P16.4, P16.5: Drop takes a file away by two calls, of which SyncDir is asked twice; then that is sure.
func TestDrop(t *testing.T) {
	d := disk(10, "a=old", "b=")
	is(t, "Drop", d, Drop(d, "a"), api.OK, 2, "b=")
	sure(t, "Drop", d)
	d = disk(10, "a=old", "b=")
	d.Fail(1, api.ErrBusy)
	is(t, "SyncDir fails", d, Drop(d, "a"), api.OK, 3, "b=")
	sure(t, "SyncDir fails", d)
	d = disk(10, "a=old", "b=")
	d.Fail(0, api.ErrBusy)
	is(t, "Unlink isn't asked twice", d, Drop(d, "a"), api.ErrBusy, 1, "a=old b=")
	sure(t, "Unlink isn't asked twice", d)
	for n := range 2 {
		d = disk(10, "a=old", "b=")
		d.Crash(n)
		is(t, "the power goes", d, Drop(d, "a"), api.ErrDown, n+1, "")
	}
}

// P16.4: Drop of what isn't there is OK without a call, if the power is there.
func TestDropNone(t *testing.T) {
	for _, name := range []string{"b", "", "A", "a.n", strings.Repeat("a", 40)} {
		d := disk(10, "a=old")
		d.Crash(0)
		is(t, "none", d, Drop(d, name), api.OK, 0, "a=old")
	}
	d := down("a=old")
	is(t, "without power", d, Drop(d, "b"), api.ErrDown, 1, "")
	is(t, "without power", d, Drop(d, "a"), api.ErrDown, 1, "")
}

// P16.4: Tidy unlinks the new names that begin with a prefix, and no other.
func TestTidy(t *testing.T) {
	all := []string{"a=", "a.n=", "a.n.x=", "ab.n=", "b.n=", "an=", ".n=", "n=", "a-n="}
	for _, c := range []struct {
		prefix string
		calls  int
		left   string
	}{
		{"a", 2, ".n= a= a-n= a.n.x= an= b.n= n="},
		{"", 4, "a= a-n= a.n.x= an= n="},
		{"a.n", 1, ".n= a= a-n= a.n.x= ab.n= an= b.n= n="},
		{"ab", 1, ".n= a= a-n= a.n= a.n.x= an= b.n= n="},
		{".n", 1, "a= a-n= a.n= a.n.x= ab.n= an= b.n= n="},
		{"a.n.", 0, ".n= a= a-n= a.n= a.n.x= ab.n= an= b.n= n="},
		{"A", 0, ".n= a= a-n= a.n= a.n.x= ab.n= an= b.n= n="},
	} {
		d := disk(10, all...)
		is(t, c.prefix, d, Tidy(d, c.prefix), api.OK, c.calls, c.left)
	}
}

// P16.4: Tidy goes by the names rising, and ends with the first error.
func TestTidyErrors(t *testing.T) {
	for n, left := range []string{"a.n= b.n= c.n=", "b.n= c.n=", "c.n="} {
		d := disk(10, "c.n=", "a.n=", "b.n=")
		d.Fail(n, api.ErrBusy)
		is(t, fmt.Sprint("call ", n, " fails"), d, Tidy(d, ""), api.ErrBusy, n+1, left)
		d = disk(10, "c.n=", "a.n=", "b.n=")
		d.Crash(n)
		is(t, fmt.Sprint("the power goes with call ", n), d, Tidy(d, ""), api.ErrDown, n+1, "")
	}
	// A disk without power has no names.
	d := down("a.n=")
	is(t, "without power", d, Tidy(d, ""), api.OK, 1, "")
}

// P16.4: Has tells whether a file has a name, sure or not, and makes no call.
func TestHas(t *testing.T) {
	d := disk(10, "a=old")
	d.Create("b")
	d.Unlink("a")
	for name, want := range map[string]bool{"a": false, "b": true, "b.n": false, "": false, "B": false} {
		if Has(d, name) != want {
			t.Errorf("Has %q", name)
		}
	}
	is(t, "Has", d, api.OK, api.OK, 2, "b=")
	d.Crash(0)
	d.SyncDir()
	if Has(d, "b") {
		t.Error("Has without power")
	}
	d.Boot(0, nil)
	if !Has(d, "a") || Has(d, "b") {
		t.Error("Has behind a crash")
	}
}

// P16.1 to P16.4: ErrDown says nothing of a name: a disk without power refuses whatever it is asked, and is as it was behind it.
func TestWithoutPower(t *testing.T) {
	d := down("a=old", "a.n=left")
	for _, e := range []api.Errno{Append(d, "b", nil), Make(d, "a", nil), Make(d, "A", nil), Swap(d, "a", nil), Swap(d, "A", nil), Drop(d, "a"), Drop(d, "b")} {
		if e != api.ErrDown {
			t.Errorf("%d", e)
		}
	}
	d.Boot(0, nil)
	is(t, "Boot", d, api.OK, api.OK, 1, "a=old a.n=left")
}
