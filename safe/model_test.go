package safe

import (
	"fmt"
	"math/rand"
	"slices"
	"strings"
	"testing"

	"pigeonhole/api"
	"pigeonhole/vdisk"
)

// plainHas is Has by the chapter's words.
func plainHas(d *vdisk.Disk, name string) bool {
	return !d.Down() && slices.Contains(d.Names(), name)
}

// again is what a call answers that is asked twice.
func again(call func(name string) api.Errno, name string) api.Errno {
	e := call(name)
	if e != api.OK && e != api.ErrDown {
		e = call(name)
	}
	return e
}

// dir is SyncDir as a call that takes a name.
func dir(d *vdisk.Disk) func(string) api.Errno {
	return func(string) api.Errno { return d.SyncDir() }
}

// plainAppend is Append by the chapter's words.
func plainAppend(d *vdisk.Disk, name string, b []byte) api.Errno {
	if e := d.Append(name, b); e != api.OK {
		return e
	}
	return again(d.Sync, name)
}

// plainMake is Make by the chapter's words.
func plainMake(d *vdisk.Disk, name string, b []byte) api.Errno {
	if plainHas(d, name) {
		return api.ErrThere
	}
	made := d.Create(name)
	e := made
	if e == api.OK {
		e = d.Append(name, b)
	}
	if e == api.OK {
		e = again(d.Sync, name)
	}
	if e == api.OK {
		e = again(dir(d), "")
	}
	if e != api.OK && e != api.ErrDown && made == api.OK {
		again(d.Unlink, name)
	}
	return e
}

// plainSwap is Swap by the chapter's words.
func plainSwap(d *vdisk.Disk, name string, b []byte) api.Errno {
	if len(name) >= 31 {
		return api.ErrForm
	}
	if plainHas(d, name+".n") {
		if e := d.Unlink(name + ".n"); e != api.OK {
			return e
		}
	}
	e := d.Create(name + ".n")
	if e == api.OK {
		e = d.Append(name+".n", b)
	}
	if e == api.OK {
		e = again(d.Sync, name+".n")
	}
	if e == api.OK {
		e = d.Rename(name+".n", name)
	}
	if e == api.OK {
		return again(dir(d), "")
	}
	if e != api.ErrDown && plainHas(d, name+".n") {
		again(d.Unlink, name+".n")
	}
	return e
}

// plainDrop is Drop by the chapter's words.
func plainDrop(d *vdisk.Disk, name string) api.Errno {
	if !d.Down() && !plainHas(d, name) {
		return api.OK
	}
	if e := d.Unlink(name); e != api.OK {
		return e
	}
	return again(dir(d), "")
}

// plainTidy is Tidy by the chapter's words.
func plainTidy(d *vdisk.Disk, prefix string) api.Errno {
	names := d.Names()
	slices.Sort(names)
	for _, n := range names {
		if len(n) >= len(prefix) && n[:len(prefix)] == prefix && len(n) >= 2 && n[len(n)-2:] == ".n" {
			if e := d.Unlink(n); e != api.OK {
				return e
			}
		}
	}
	return api.OK
}

// files tells the names of a disk, each with its bytes.
func files(d *vdisk.Disk) string {
	var told []string
	for _, n := range d.Names() {
		b, _ := d.Read(n)
		told = append(told, n+"="+string(b))
	}
	return strings.Join(told, " ")
}

// told is all that can be seen of a disk.
func told(d *vdisk.Disk) string {
	turns, writes := d.Waits()
	return fmt.Sprintf("%v %d %d %d %d %q", d.Down(), d.Calls(), d.Used(), turns, writes, files(d))
}

// drawnName is a name that may well be there, or none at all.
func drawnName(r *rand.Rand) string {
	if r.Intn(20) == 0 {
		return strings.Repeat("a", 28+r.Intn(6))
	}
	return []string{"a", "a.n", "a.n.n", "b", "b.n", "ab.n", ".n", "", "A", "a b", "n", "."}[r.Intn(12)]
}

// pair is two disks that are alike.
type pair struct{ d, p *vdisk.Disk }

// both does the same with both.
func (x pair) both(do func(d *vdisk.Disk)) {
	do(x.d)
	do(x.p)
}

// drawnPair is two disks that are alike, with files, of which some may wait.
func drawnPair(r *rand.Rand) pair {
	var files []api.File
	for _, n := range []string{"a", "a.n", "b.n", "ab.n", ".n"} {
		if r.Intn(3) == 0 {
			files = append(files, api.File{Name: n, Data: []byte(n)[:r.Intn(len(n)+1)]})
		}
	}
	room := 12 + r.Intn(20)
	return pair{vdisk.New(files, room), vdisk.New(files, room)}
}

// disturb arms what may fail, lets the power go or come, or does a call that makes nothing sure.
func (x pair) disturb(r *rand.Rand) {
	n, k, name := r.Intn(9)-1, r.Intn(20), drawnName(r)
	keep := make([]int, r.Intn(4))
	for i := range keep {
		keep[i] = r.Intn(6) - 1
	}
	x.both(func(d *vdisk.Disk) {
		switch k {
		case 0, 1, 2, 3:
			d.Crash(n)
		case 4, 5, 6, 7, 8, 9:
			d.Fail(n, api.ErrBusy)
		case 10:
			d.Fail(n, api.ErrSpace)
		case 11:
			d.Append(name, []byte("wait"))
		case 12:
			d.Create(name)
		case 13, 14, 15, 16:
			d.Boot(n, keep)
		}
	})
}

// call asks a function of the package and its words the same.
func (x pair) call(r *rand.Rand) (what string, got, want any) {
	name, b := drawnName(r), make([]byte, r.Intn(8))
	r.Read(b)
	switch r.Intn(8) {
	case 0:
		return "Append", Append(x.d, name, b), plainAppend(x.p, name, b)
	case 1, 2:
		return "Make", Make(x.d, name, b), plainMake(x.p, name, b)
	case 3, 4:
		return "Swap", Swap(x.d, name, b), plainSwap(x.p, name, b)
	case 5:
		return "Drop", Drop(x.d, name), plainDrop(x.p, name)
	case 6:
		return "Tidy", Tidy(x.d, name), plainTidy(x.p, name)
	}
	return "Has", Has(x.d, name), plainHas(x.p, name)
}

// P16.1 to P16.4: drawn calls on drawn disks, of which some calls fail and whose power goes and comes, answer and leave what the chapter's words do.
func TestAgainstWords(t *testing.T) {
	for seed := range 6000 {
		r := rand.New(rand.NewSource(int64(seed)))
		x := drawnPair(r)
		for i := range 25 {
			for range r.Intn(3) {
				x.disturb(r)
			}
			what, got, want := x.call(r)
			if got != want {
				t.Fatalf("seed %d, call %d: %s: %v, not %v", seed, i, what, got, want)
			}
			if s, p := told(x.d), told(x.p); s != p {
				t.Fatalf("seed %d, call %d: %s: %s, not %s", seed, i, what, s, p)
			}
		}
	}
}
