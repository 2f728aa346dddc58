package vdisk

import (
	"bytes"
	"maps"
	"math/rand"
	"slices"
	"strings"
	"testing"

	"pigeonhole/api"
)

// plainFile is a file by the chapter's words: what is sure, and what was written since.
type plainFile struct {
	sure   string
	ats    []int
	writes []string
}

// with is the bytes, with so many first ones of each write.
func (f *plainFile) with(keep []int) string {
	b := f.sure
	for i, w := range f.writes {
		w = w[:keep[i]]
		if w == "" {
			continue
		}
		if lack := f.ats[i] - len(b); lack > 0 {
			b += strings.Repeat("\x00", lack)
		}
		b = b[:f.ats[i]] + w + b[min(len(b), f.ats[i]+len(w)):]
	}
	return b
}

// seen is the bytes with all writes.
func (f *plainFile) seen() string {
	var keep []int
	for _, w := range f.writes {
		keep = append(keep, len(w))
	}
	return f.with(keep)
}

// plainDisk is a disk by the chapter's words. It keeps the names as they were behind each turn, and all files that were ever made.
type plainDisk struct {
	capacity int
	files    []*plainFile
	states   []map[string]int
	created  []int
}

// now is the names as they are seen.
func (p *plainDisk) now() map[string]int {
	return p.states[len(p.states)-1]
}

// used is the bytes of all files with names.
func (p *plainDisk) used() int {
	n := 0
	for _, i := range p.now() {
		n += len(p.files[i].seen())
	}
	return n
}

// turn puts down the names behind one more turn.
func (p *plainDisk) turn(change func(names map[string]int)) {
	names := maps.Clone(p.now())
	change(names)
	p.states = append(p.states, names)
}

// known are the files that a crash may leave.
func (p *plainDisk) known() []*plainFile {
	var l []*plainFile
	for i, f := range p.files {
		in := slices.Contains(p.created, i)
		for _, names := range []map[string]int{p.now(), p.states[0]} {
			in = in || slices.Contains(slices.Collect(maps.Values(names)), i)
		}
		if in {
			l = append(l, f)
		}
	}
	return l
}

// waits is how many turns and writes wait.
func (p *plainDisk) waits() (turns, writes int) {
	for _, f := range p.known() {
		writes += len(f.writes)
	}
	return len(p.states) - 1, writes
}

// boot is what a crash leaves.
func (p *plainDisk) boot(turns int, keep []int) {
	for _, f := range p.known() {
		var kept []int
		for _, w := range f.writes {
			n := 0
			if len(keep) > 0 {
				n, keep = min(max(keep[0], 0), len(w)), keep[1:]
			}
			kept = append(kept, n)
		}
		*f = plainFile{sure: f.with(kept)}
	}
	p.states = p.states[min(max(turns, 0), len(p.states)-1):][:1]
	p.created = nil
}

// rename is Rename.
func (p *plainDisk) rename(from, to string) api.Errno {
	if !validSample[to] {
		return api.ErrForm
	}
	i, ok := p.now()[from]
	if !ok {
		return api.ErrNone
	}
	p.turn(func(names map[string]int) {
		delete(names, from)
		names[to] = i
	})
	return api.OK
}

// write is Append (behind, whatever at is) and Pwrite.
func (p *plainDisk) write(name string, at int, b string, behind bool) api.Errno {
	i, ok := p.now()[name]
	if !ok {
		return api.ErrNone
	}
	size := len(p.files[i].seen())
	if behind {
		at = size
	}
	if at < 0 || at > size {
		return api.ErrArg
	}
	if p.used()-size+max(size, at+len(b)) > p.capacity {
		return api.ErrSpace
	}
	p.files[i].ats = append(p.files[i].ats, at)
	p.files[i].writes = append(p.files[i].writes, b)
	return api.OK
}

// create is Create.
func (p *plainDisk) create(name string) api.Errno {
	if !validSample[name] {
		return api.ErrForm
	}
	if _, ok := p.now()[name]; ok {
		return api.ErrThere
	}
	p.created = append(p.created, len(p.files))
	p.files = append(p.files, &plainFile{})
	p.turn(func(names map[string]int) { names[name] = len(p.files) - 1 })
	return api.OK
}

// sync is Sync.
func (p *plainDisk) sync(name string) api.Errno {
	i, ok := p.now()[name]
	if !ok {
		return api.ErrNone
	}
	*p.files[i] = plainFile{sure: p.files[i].seen()}
	return api.OK
}

// unlink is Unlink.
func (p *plainDisk) unlink(name string) api.Errno {
	if _, ok := p.now()[name]; !ok {
		return api.ErrNone
	}
	p.turn(func(names map[string]int) { delete(names, name) })
	return api.OK
}

// syncDir is SyncDir.
func (p *plainDisk) syncDir() api.Errno {
	p.states, p.created = p.states[len(p.states)-1:], nil
	return api.OK
}

// samples are the names that are drawn; validSample tells those of them that are names.
var samples = []string{"a", "b", "c", "d.n", "e-1", "", "A"}

var validSample = map[string]bool{"a": true, "b": true, "c": true, "d.n": true, "e-1": true}

// step does one call that is drawn on both, and is what each answers.
func step(r *rand.Rand, d *Disk, p *plainDisk) (got, want api.Errno) {
	name := samples[r.Intn(len(samples))]
	b := strings.Repeat(string(rune('a'+r.Intn(26))), r.Intn(5))
	switch k := r.Intn(20); {
	case k < 4:
		return d.Create(name), p.create(name)
	case k < 9:
		return d.Append(name, []byte(b)), p.write(name, 0, b, true)
	case k < 12:
		at := r.Intn(8) - 1
		return d.Pwrite(name, at, []byte(b)), p.write(name, at, b, false)
	case k < 14:
		return d.Sync(name), p.sync(name)
	case k < 16:
		to := samples[r.Intn(len(samples))]
		return d.Rename(name, to), p.rename(name, to)
	case k < 18:
		return d.Unlink(name), p.unlink(name)
	case k < 19:
		return d.SyncDir(), p.syncDir()
	}
	var keep []int
	for range r.Intn(12) {
		keep = append(keep, r.Intn(8)-2)
	}
	turns := r.Intn(8) - 1
	d.Crash(0)
	if e := d.SyncDir(); e != api.ErrDown {
		return e, api.ErrDown
	}
	p.boot(turns, keep)
	return d.Boot(turns, keep), api.OK
}

// alike fails, unless both have the same to be seen.
func alike(t *testing.T, d *Disk, p *plainDisk) {
	t.Helper()
	turns, writes := d.Waits()
	if n, m := p.waits(); turns != n || writes != m {
		t.Fatalf("%d turns and %d writes wait, not %d and %d", turns, writes, n, m)
	}
	if l := slices.Sorted(maps.Keys(p.now())); !slices.Equal(d.Names(), l) || d.Used() != p.used() {
		t.Fatalf("%q, not %q; %d used, not %d", d.Names(), l, d.Used(), p.used())
	}
	for name, i := range p.now() {
		if b, e := d.Read(name); e != api.OK || !bytes.Equal(b, []byte(p.files[i].seen())) {
			t.Fatalf("%q: %q %d, not %q", name, b, e, p.files[i].seen())
		}
	}
}

// P4.2, P4.3, P4.5: many calls, one behind the other, against the chapter's words.
func TestAgainstWords(t *testing.T) {
	seen := map[api.Errno]int{}
	for seed := range int64(400) {
		r := rand.New(rand.NewSource(seed))
		capacity := 1 + r.Intn(40)
		d, p := disk(t, capacity), &plainDisk{capacity: capacity, states: []map[string]int{{}}}
		for n := range 150 {
			got, want := step(r, d, p)
			if got != want {
				t.Fatalf("%d, call %d: %d, not %d", seed, n, got, want)
			}
			seen[got]++
			alike(t, d, p)
		}
	}
	for _, e := range []api.Errno{api.OK, api.ErrForm, api.ErrThere, api.ErrNone, api.ErrArg, api.ErrSpace} {
		if seen[e] == 0 {
			t.Errorf("%d was never seen", e)
		}
	}
}

// P1, R1: any arguments, with the power there and gone.
func TestAnyArguments(t *testing.T) {
	const most = int(^uint(0) >> 1)
	numbers := []int{-most - 1, -most, -1, 0, 1, 2, 3, most - 1, most}
	texts := []string{"", "a", "b", "\x00", "\xff\xfe", strings.Repeat("a", 40)}
	d := disk(t, 3, file1("a", "1"))
	for range 3 {
		for _, s := range texts {
			for _, n := range numbers {
				d.ReadAt(s, n, n)
				for _, m := range numbers {
					d.Pwrite(s, n, []byte(s))
					d.ReadAt(s, n, m)
				}
				d.Append(s, []byte(s))
				d.Create(s)
				d.Fail(n, api.Errno(n))
				d.Rename(s, s)
				d.Rename("a", s)
				d.Unlink(s)
				d.Crash(n)
				d.Sync(s)
				d.SyncDir()
				d.Boot(n, numbers)
				d.Boot(n, nil)
			}
		}
		New([]api.File{{}, {}}, 0)
	}
	if d.Down() {
		t.Error("the power is gone")
	}
}
