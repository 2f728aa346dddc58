package index

import (
	"fmt"
	"math/rand"
	"slices"
	"testing"

	"pigeonhole/api"
	"pigeonhole/vdisk"
)

// peek tells what an index would that is opened on a disk as it is now, and leaves the disk as it is.
func peek(t *testing.T, d *vdisk.Disk) string {
	t.Helper()
	return tells(opens(t, vdisk.New(filesOf(d), 4000)))
}

// change is what may be done with an index.
type change struct {
	what string
	do   func(x *Index) api.Errno
}

// changes are some of each kind, for an index as three makes it.
func changes() []change {
	return []change{
		{"Deliver", func(x *Index) api.Errno {
			_, e := x.Deliver(9, 3, 2, 8, 11)
			return e
		}},
		{"Expunge", func(x *Index) api.Errno { return x.Expunge(2) }},
		{"Flag", func(x *Index) api.Errno { return x.Flag(3, 12) }},
		{"Persist", (*Index).Persist},
		{"Compact", (*Index).Compact},
		{"Step", (*Index).Step},
	}
}

// behindCrash lets the power go with each call of a change, with each number of kept turns and these of kept bytes, and hands on what is there behind it: the disk, the index that was there, what it answered, and what it told ahead of the change. It tells how many calls the change makes.
func behindCrash(t *testing.T, made func() (*vdisk.Disk, *Index), do func(x *Index) api.Errno, kept []int, look func(what string, d *vdisk.Disk, x *Index, e api.Errno, before string)) int {
	t.Helper()
	const turns = 4
	for crash := 0; ; crash++ {
		for i := range turns * len(kept) {
			d, x := made()
			before := tells(x)
			d.Crash(crash)
			e := do(x)
			if !d.Down() {
				if e != api.OK {
					t.Errorf("crash %d: %d", crash, e)
				}
				return crash
			}
			if e != api.OK && (e != api.ErrDown || tells(x) != before) {
				t.Fatalf("crash %d: %d %s, not %s", crash, e, tells(x), before)
			}
			turns, bytes := i%turns, kept[i/turns]
			d.Boot(turns, []int{bytes})
			look(fmt.Sprint("crash ", crash, ", kept ", turns, " and ", bytes), d, x, e, before)
		}
	}
}

// kinds are disks with an index each, as three makes it: as it is; its log behind; with a box whose bound is reached; with one whose end is broken.
func kinds(t *testing.T) map[string]func() (*vdisk.Disk, *Index) {
	plain, _ := three(t)
	made := func(change func(d *vdisk.Disk), bound, fail int) func() (*vdisk.Disk, *Index) {
		from := vdisk.New(filesOf(plain), 4000)
		change(from)
		return func() (*vdisk.Disk, *Index) {
			d := vdisk.New(filesOf(from), 4000)
			d.Fail(fail, api.ErrBusy)
			x, e := Open(d, 1, bound)
			if e != api.OK {
				t.Fatal(e)
			}
			d.Fail(-1, api.OK)
			return d, x
		}
	}
	return map[string]func() (*vdisk.Disk, *Index){
		"plain":  made(func(d *vdisk.Disk) {}, 1000, -1),
		"behind": made(func(d *vdisk.Disk) { d.Append(x1, []byte("x")) }, 1000, 0),
		"full":   made(func(d *vdisk.Disk) {}, 10, -1),
		"broken": made(func(d *vdisk.Disk) { d.Append(c1, []byte("x")) }, 1000, -1),
	}
}

// P21.6: whenever the power goes within a change, the mailbox is behind it as it was, or the change is there as a whole; what answered OK is there.
func TestPower(t *testing.T) {
	calls := map[string]int{}
	for kind, made := range kinds(t) {
		var kept []int
		for n := range 130 {
			if kind == "plain" || n%9 == 0 {
				kept = append(kept, n)
			}
		}
		for _, c := range changes() {
			_, x := made()
			if e := c.do(x); e != api.OK {
				t.Fatalf("%s, %s: %d", kind, c.what, e)
			}
			after := tells(x)
			calls[kind+" "+c.what] = behindCrash(t, made, c.do, kept, func(what string, d *vdisk.Disk, _ *Index, e api.Errno, before string) {
				what = fmt.Sprint(kind, ", ", c.what, ", ", what)
				y := opens(t, d)
				got := tells(y)
				if got != after && (e == api.OK || got != before) {
					t.Fatalf("%s: %s, neither %s nor %s", what, got, before, after)
				}
				if y.Behind() {
					t.Errorf("%s: behind", what)
				}
			})
		}
	}
	for what, n := range map[string]int{"plain Deliver": 4, "plain Flag": 2, "behind Flag": 7, "full Deliver": 10, "broken Expunge": 8, "plain Compact": 12, "plain Persist": 2, "plain Step": 0, "behind Step": 5} {
		if calls[what] != n {
			t.Errorf("%s: %d calls, not %d", what, calls[what], n)
		}
	}
}

// P21.6: an index that goes on behind a crash within a change of its own loses nothing that was there, nor what it says it did.
func TestPowerGoesOn(t *testing.T) {
	for kind, made := range kinds(t) {
		for _, c := range changes() {
			behindCrash(t, made, c.do, []int{0, 1, 30, 38, 50, 90, 200}, func(what string, d *vdisk.Disk, x *Index, _ api.Errno, _ string) {
				what = fmt.Sprint(kind, ", ", c.what, ", ", what)
				for _, next := range changes() {
					goesOn(t, fmt.Sprint(what, ", then ", next.what), d, x, next)
				}
			})
		}
	}
}

// goesOn makes a change with an index that was there ahead of a crash: what then is on the disk is what a new one would have left.
func goesOn(t *testing.T, what string, d *vdisk.Disk, x *Index, c change) {
	t.Helper()
	y := opens(t, vdisk.New(filesOf(d), 4000))
	want := c.do(y)
	if e := c.do(x); e != want || tells(x) != tells(y) {
		t.Fatalf("%s: %d %s, not %d %s", what, e, tells(x), want, tells(y))
	}
	if got := peek(t, d); got != tells(x) {
		t.Fatalf("%s: %s is there, not %s", what, got, tells(x))
	}
}

// P21.6: what looks at the disk again behind a crash may fail; then nothing is changed, and it looks again with the next call.
func TestGoesOnFails(t *testing.T) {
	for _, c := range changes() {
		d, x := three(t)
		must(t, x.Persist())
		calls := d.Calls()
		d.Crash(3)
		if e := x.Compact(); e != api.ErrDown || d.Calls() != calls+4 {
			t.Fatal(e)
		}
		d.Boot(1, nil)
		before, was := tells(x), files(d)
		if len(was) != 6 || was[2] != c2+".n" {
			t.Fatalf("%q", was)
		}
		d.Fail(0, api.ErrBusy)
		if e := c.do(x); e != api.ErrBusy || tells(x) != before || !slices.Equal(files(d), was) {
			t.Errorf("%s: %d %s %q", c.what, e, tells(x), files(d))
		}
		d.Crash(0)
		if e := c.do(x); e != api.ErrDown || tells(x) != before {
			t.Errorf("%s, power: %d", c.what, e)
		}
		// Without power it isn't looked at, and errors ahead of that of the disk are answered.
		if e := x.Flag(99, 99); e != api.ErrNone {
			t.Errorf("%s: %d", c.what, e)
		}
		d.Boot(0, nil)
		goesOn(t, c.what, d, x, c)
		if l := d.Names(); len(l) != 2 {
			t.Errorf("%s: %q", c.what, l)
		}
	}
}

// P21.5, P21.6: an index that was compacted, and whose log counts as behind, still does so when it has looked at the disk again.
func TestCompactedGoesOn(t *testing.T) {
	d, x := three(t)
	must(t, x.Expunge(1))
	d.Fail(7, api.ErrBusy)
	must(t, x.Compact())
	if !x.Behind() {
		t.Fatal("in step")
	}
	d.Crash(1)
	if e := x.Step(); e != api.ErrDown {
		t.Fatal(e)
	}
	d.Boot(0, nil)
	compactedIsBehind(t, "behind a crash", d, x)
}

// P21.1, P21.6: when the power goes within Open, the next one has the same; what was cut off of making the log is done again.
func TestOpenPower(t *testing.T) {
	plain, x := three(t)
	must(t, x.Persist())
	want := tells(x)
	for _, log := range []string{"", "x", txs(tx(used(18, 3, 4), flagged(2, 6))) + "y"} {
		for crash := range 10 {
			for i := range 4 * 70 {
				d := vdisk.New(filesOf(plain), 4000)
				d.Unlink(x1)
				if log != "" {
					d.Create(x1)
					d.Append(x1, []byte(log))
				}
				d.SyncDir()
				d.Sync(x1)
				d.Crash(crash)
				x, e := Open(d, 1, 1000)
				if (x != nil) != (e == api.OK) || (e == api.ErrDown) != d.Down() {
					t.Fatalf("crash %d: %v %d", crash, x != nil, e)
				}
				d.Boot(i%4, []int{i / 4})
				y := opens(t, d)
				if tells(y) != want || y.Behind() {
					t.Fatalf("crash %d: %s, not %s", crash, tells(y), want)
				}
				if l := d.Names(); !slices.Equal(l, []string{c1, x1}) {
					t.Fatalf("crash %d: %q", crash, l)
				}
			}
		}
	}
}

// P21.6: without its log a mailbox is the same but for flags, which are those that its box tells; whatever bytes the log has, it is the same but for flags.
func TestWithoutLog(t *testing.T) {
	r := rand.New(rand.NewSource(21))
	for range 300 {
		d, x := three(t)
		must(t, x.Expunge(1), x.Flag(3, 9))
		if r.Intn(2) == 0 {
			must(t, x.Persist())
		}
		plain, _ := mailboxOf(x.box)
		log, _ := d.Read(x1)
		must(t, d.Unlink(x1))
		y := opens(t, vdisk.New(filesOf(d), 4000))
		if got, want := fmt.Sprint(y.List(true), y.Use(), y.Next()), fmt.Sprint(plain.List(true), plain.Use(), plain.Next()); got != want {
			t.Fatalf("%s, not %s", got, want)
		}
		for range r.Intn(6) {
			log[r.Intn(len(log))] ^= byte(1 + r.Intn(255))
		}
		log = log[r.Intn(2)*r.Intn(9):]
		z := opens(t, vdisk.New(append(filesOf(d), api.File{Name: x1, Data: log}), 4000))
		if z.Behind() || fmt.Sprint(bare(z)) != fmt.Sprint(bare(y)) {
			t.Fatalf("%v, not %v", bare(z), bare(y))
		}
	}
}

// bare is the entries of an index without their flags.
func bare(x *Index) []api.Entry {
	l := x.List(true)
	for i := range l {
		l[i].Flags = 0
	}
	return l
}
