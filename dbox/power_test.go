package dbox

import (
	"fmt"
	"slices"
	"testing"

	"pigeonhole/api"
	"pigeonhole/vdisk"
)

// records tells the records of a box, place by place.
func records(b *Box) string {
	var l []api.Rec
	for _, p := range b.Places() {
		l = append(l, p.Rec)
	}
	return fmt.Sprint(l)
}

// behindCrash lets the power go with each call of what is done with a box, with each number of kept turns and bytes, and tells what the box that is opened behind it has: its records, or that a next number fell. The box that was there is handed on to what goes on behind it.
func behindCrash(t *testing.T, made func() *vdisk.Disk, bound int, do func(b *Box) api.Errno, goesOn func(d *vdisk.Disk, old *Box)) []string {
	t.Helper()
	const turns, most = 8, 48
	var told []string
	for crash := 0; ; crash++ {
		for i := range turns * (most + 1) {
			d := made()
			b := opens(t, d, 1, bound)
			next, before := b.Next(), tells(b)
			d.Crash(crash)
			e := do(b)
			if !d.Down() {
				if e != api.OK {
					t.Fatalf("crash %d: %d", crash, e)
				}
				slices.Sort(told)
				return slices.Compact(told)
			}
			if e == api.ErrDown {
				if b.Next() != next {
					t.Errorf("crash %d: next %d", crash, b.Next())
				}
			} else if e != api.OK || tells(b) == before {
				t.Errorf("crash %d: %d %s", crash, e, tells(b))
			}
			next = b.Next()
			d.Boot(i%turns, []int{i / turns})
			again := opens(t, d, 1, bound)
			if e == api.OK && records(again) != records(b) {
				t.Errorf("crash %d: %s, not %s", crash, records(again), records(b))
			}
			if again.Next() < next {
				t.Errorf("crash %d: the next number fell to %d", crash, again.Next())
			}
			told = append(told, records(again))
			goesOn(d, b)
		}
	}
}

// goesOn puts one more into the box that was there ahead of a crash, and into one that is opened behind it: neither loses what it says it has put, nor what was there.
func goesOn(t *testing.T, bound int) func(d *vdisk.Disk, old *Box) {
	return func(d *vdisk.Disk, old *Box) {
		t.Helper()
		was := opens(t, d, 1, bound).Places()
		p, e := old.Put(gone(70))
		if e == api.OK {
			was = append(was, p)
		} else if e != api.ErrThere {
			t.Errorf("the old one: %d", e)
		}
		b := opens(t, d, 1, bound)
		if got := fmt.Sprint(b.Places()); got != fmt.Sprint(was) {
			t.Errorf("behind the old one's %d: %s, not %s", e, got, fmt.Sprint(was))
		}
		p, e = b.Put(gone(71))
		if e != api.OK {
			t.Errorf("the new one: %d", e)
		}
		if got := fmt.Sprint(opens(t, d, 1, bound).Places()); got != fmt.Sprint(append(was, p)) {
			t.Errorf("behind the new one: %s", got)
		}
	}
}

// same fails, where these aren't just the lists of records that came about.
func same(t *testing.T, got []string, want ...[]api.Rec) {
	t.Helper()
	var all []string
	for _, l := range want {
		all = append(all, fmt.Sprint(l))
	}
	slices.Sort(all)
	if !slices.Equal(got, all) {
		t.Errorf("%s, not %s", got, all)
	}
}

// P18.5: whenever the power goes within Put, the records are those that were there, or the new one too.
func TestPutPower(t *testing.T) {
	a, r := msg(1), msg(0x50)
	one := frames(head(1, 1, 1, 0), a)
	for _, c := range []struct {
		files []string
		bound int
		was   []api.Rec
	}{
		{nil, 100, nil},
		{[]string{c1, one}, 1000, []api.Rec{a}},
		{[]string{c1, one}, 10, []api.Rec{a}},
		{[]string{c1, one + "x"}, 1000, []api.Rec{a}},
		{[]string{c1, one, c2, ""}, 1000, []api.Rec{a}},
		{[]string{c1, one, c2, frames(head(1, 2, 2, 0), gone(1), seal(2))}, 10, []api.Rec{a, gone(1)}},
	} {
		made := func() *vdisk.Disk { return disk(1000, c.files...) }
		do := func(b *Box) api.Errno { _, e := b.Put(r); return e }
		got := behindCrash(t, made, c.bound, do, goesOn(t, c.bound))
		same(t, got, c.was, append(slices.Clone(c.was), r))
	}
}

// P18.5: whenever the power goes within Compact, the elder containers are there, or the new one; with what it was cut off at, nothing is lost that was put behind it.
func TestCompactPower(t *testing.T) {
	l := []api.Rec{msg(3), flag(3, 1)}
	for _, c := range []struct {
		files []string
		was   []api.Rec
	}{
		{nil, nil},
		{[]string{c1, frames(head(1, 1, 1, 0), msg(1))}, []api.Rec{msg(1)}},
		{[]string{c1, frames(msg(1)), c2, "", c3, frames(msg(3))}, []api.Rec{msg(1), msg(3)}},
		{[]string{c1, frames(msg(1)), c2, frames(msg(2)), c2 + ".n", "x", c3 + ".n", "x"}, []api.Rec{msg(1), msg(2)}},
	} {
		for _, bound := range []int{10, 1000} {
			made := func() *vdisk.Disk { return disk(1000, c.files...) }
			do := func(b *Box) api.Errno { return b.Compact(l) }
			same(t, behindCrash(t, made, bound, do, goesOn(t, bound)), c.was, l)
		}
	}
}

// P18.5: a Compact that was cut off may be made again, by the box that was there or by another.
func TestCompactPowerAgain(t *testing.T) {
	l := []api.Rec{msg(3)}
	made := func() *vdisk.Disk { return disk(1000, c1, frames(msg(1)), c2, frames(msg(2))) }
	do := func(b *Box) api.Errno { return b.Compact(l) }
	behindCrash(t, made, 1000, do, func(d *vdisk.Disk, old *Box) {
		for _, b := range []*Box{old, opens(t, d, 1, 1000)} {
			if e := b.Compact([]api.Rec{msg(4)}); e != api.OK {
				t.Fatal(e)
			}
			puts(t, b, gone(4))
			again := opens(t, d, 1, 1000)
			if records(again) != fmt.Sprint([]api.Rec{msg(4), gone(4)}) || tells(again) != tells(b) {
				t.Errorf("%s, not %s", tells(again), tells(b))
			}
		}
	})
}

// P18.2, P18.5: a box whose containers were replaced, as by a Compact that was cut off by the power, puts nothing into one that is told no more.
func TestPutReplaced(t *testing.T) {
	d := disk(1000, c1, frames(msg(1)))
	b := opens(t, d, 1, 1000)
	d.Crash(4)
	if e := b.Compact([]api.Rec{msg(1), gone(1)}); e != api.ErrDown {
		t.Fatal(e)
	}
	d.Boot(2, nil)
	if l := d.Names(); !slices.Equal(l, []string{c1, c2}) {
		t.Fatalf("%q", l)
	}
	putFails(t, "replaced", b, msg(2), api.ErrThere)
	is(t, "opened again", opens(t, d, 1, 1000), []int{2}, 2, 0, at(2, len(frames(head(1, 2, 2, 2))), msg(1), gone(1))...)
	putFails(t, "replaced, and gone", b, msg(2), api.ErrThere)
	// A container behind it that tells no base above takes nothing from it.
	d = disk(1000, c1, frames(msg(1)))
	b = opens(t, d, 1, 1000)
	d.Create(c2)
	d.Append(c2, []byte(frames(head(1, 2, 2, 1), msg(5))))
	putIs(t, "beside another", b, msg(2), 1, len(frames(msg(1))))
}

// P18.5: what was cut off of the containers' dropping is dropped when the box is opened again, as often as it takes.
func TestOpenPower(t *testing.T) {
	for crash := range 6 {
		for turns := range 4 {
			d := disk(1000, c1, frames(msg(9)), c2, "x", c3, frames(head(1, 3, 4, 3), msg(2)), c3+".n", "x")
			d.Crash(crash)
			b, e := Open(d, 1, 10)
			if (e == api.OK) != (b != nil) || e != api.OK && e != api.ErrDown {
				t.Errorf("crash %d: %v %d", crash, b != nil, e)
			}
			if d.Down() {
				d.Boot(turns, nil)
			}
			is(t, fmt.Sprint("crash ", crash), opens(t, d, 1, 10), []int{3}, 4, 0, at(3, len(frames(head(1, 3, 4, 3))), msg(2))...)
			if l := d.Names(); !slices.Equal(l, []string{c3}) {
				t.Errorf("crash %d: %q", crash, l)
			}
		}
	}
}
