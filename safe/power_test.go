package safe

import (
	"bytes"
	"slices"
	"testing"

	"pigeonhole/api"
	"pigeonhole/vdisk"
)

// afterCrash tells what the files are behind a crash with each call of those that do makes, with each number of kept turns and of kept bytes of each of two writes; made is a new disk each time.
func afterCrash(t *testing.T, made func() *vdisk.Disk, do func(d *vdisk.Disk) api.Errno, most int) []string {
	t.Helper()
	var told []string
	for crash := 0; ; crash++ {
		for i := range 5 * (most + 1) * (most + 1) {
			d := made()
			d.Crash(crash)
			e := do(d)
			if !d.Down() {
				if e != api.OK || i != 0 {
					t.Fatalf("crash %d: %d", crash, e)
				}
				slices.Sort(told)
				return slices.Compact(told)
			}
			if e != api.ErrDown {
				t.Fatalf("crash %d: %d", crash, e)
			}
			turns, keep := i%5, i/5
			d.Boot(turns, []int{keep % (most + 1), keep / (most + 1)})
			told = append(told, files(d))
		}
	}
}

// same looks whether just these states came about.
func same(t *testing.T, got []string, want ...string) {
	t.Helper()
	slices.Sort(want)
	if !slices.Equal(got, want) {
		t.Errorf("%q, not %q", got, want)
	}
}

// P16.5: whenever the power goes within Swap, the file has the bytes that it had, or the new ones; a part of these stands under the new name alone.
func TestSwapPower(t *testing.T) {
	swap := func(d *vdisk.Disk) api.Errno { return Swap(d, "a", []byte("xy")) }
	same(t, afterCrash(t, func() *vdisk.Disk { return disk(10, "a=old") }, swap, 2),
		"a=old", "a=old a.n=", "a=old a.n=x", "a=old a.n=xy", "a=xy")
	same(t, afterCrash(t, func() *vdisk.Disk { return disk(10) }, swap, 2),
		"", "a.n=", "a.n=x", "a.n=xy", "a=xy")
	same(t, afterCrash(t, func() *vdisk.Disk { return disk(10, "a=old", "a.n=left") }, swap, 2),
		"a=old a.n=left", "a=old", "a=old a.n=", "a=old a.n=x", "a=old a.n=xy", "a=xy")
}

// P16.5: whenever the power goes within Make, the file isn't there, or is with a part of its bytes.
func TestMakePower(t *testing.T) {
	do := func(d *vdisk.Disk) api.Errno { return Make(d, "b", []byte("xy")) }
	same(t, afterCrash(t, func() *vdisk.Disk { return disk(10, "a=old") }, do, 2),
		"a=old", "a=old b=", "a=old b=x", "a=old b=xy")
}

// P16.5: whenever the power goes within Append, the file has what it had, and a part of what was put behind it.
func TestAppendPower(t *testing.T) {
	do := func(d *vdisk.Disk) api.Errno { return Append(d, "a", []byte("xy")) }
	same(t, afterCrash(t, func() *vdisk.Disk { return disk(10, "a=old") }, do, 2),
		"a=old", "a=oldx", "a=oldxy")
}

// P16.5: whenever the power goes within Drop, the file is there as it was, or isn't.
func TestDropPower(t *testing.T) {
	do := func(d *vdisk.Disk) api.Errno { return Drop(d, "a") }
	same(t, afterCrash(t, func() *vdisk.Disk { return disk(10, "a=old", "b=") }, do, 2),
		"a=old b=", "b=")
}

// P16.5: what was done with a first file is sure behind a second one's crash, and turns that waited are made sure by SyncDir.
func TestSureBehindLater(t *testing.T) {
	d := disk(100, "a=old", "c=gone")
	for _, e := range []api.Errno{Make(d, "b", []byte("made")), Swap(d, "a", []byte("new")), Append(d, "b", []byte("+")), Drop(d, "c")} {
		if e != api.OK {
			t.Fatal(e)
		}
	}
	d.Crash(3)
	if e := Swap(d, "b", []byte("lost")); e != api.ErrDown {
		t.Fatal(e)
	}
	d.Boot(0, nil)
	if s := files(d); s != "a=new b=made+" {
		t.Errorf("%q", s)
	}
}

// P16.5: what is handed in stays, to the end of its memory, and may be written over behind the call.
func TestHandedIn(t *testing.T) {
	memory := []byte("onetwo")
	b := memory[:3]
	d := disk(100, "a=", "c=")
	for _, e := range []api.Errno{Append(d, "a", b), Make(d, "b", b), Swap(d, "c", b)} {
		if e != api.OK {
			t.Fatal(e)
		}
	}
	d.Fail(1, api.ErrBusy)
	Swap(d, "c", b)
	if !bytes.Equal(memory, []byte("onetwo")) {
		t.Errorf("%q", memory)
	}
	copy(memory, "XXXXXX")
	if s := files(d); s != "a=one b=one c=one" {
		t.Errorf("%q", s)
	}
	d.SyncDir()
	sure(t, "behind it", d)
}
