package bodies

import (
	"fmt"
	"slices"
	"testing"

	"pigeonhole/api"
	"pigeonhole/vdisk"
)

// bodiesOf tells a store's bodies and its next number.
func bodiesOf(s *Store) string {
	told := fmt.Sprint("next ", s.Next())
	for _, n := range s.Numbers() {
		b, _ := s.Get(n)
		told += fmt.Sprintf("; %d %q", n, b)
	}
	return told
}

// behindCrash lets the power go with each call of what is done with a store of a file, with each number of kept turns and bytes, and tells what the stores that are opened behind it have. What goes on behind it is handed the store that was there, too.
func behindCrash(t *testing.T, file string, do func(s *Store) api.Errno, goesOn func(what string, d *vdisk.Disk, old *Store)) []string {
	t.Helper()
	const turns, most = 4, 20
	var all []string
	for crash := 0; ; crash++ {
		for i := range turns * (most + 1) {
			what := fmt.Sprintf("crash %d, %d turns, %d bytes", crash, i%turns, i/turns)
			d := disk(1000, "bodies", file)
			s := opens(t, d)
			before := tells(s)
			d.Crash(crash)
			e := do(s)
			if !d.Down() {
				if e != api.OK {
					t.Fatalf("%s: %d", what, e)
				}
				slices.Sort(all)
				return slices.Compact(all)
			}
			if got := tells(s); e != api.ErrDown || got != before {
				t.Errorf("%s: %d %s, not %s", what, e, got, before)
			}
			d.Boot(i%turns, []int{i / turns})
			if got := tells(s); got != before {
				t.Errorf("%s: %s, not %s", what, got, before)
			}
			again := opens(t, d)
			if !slices.Equal(d.Names(), []string{"bodies"}) || again.Next() < s.Next() {
				t.Errorf("%s: %q, next %d", what, d.Names(), again.Next())
			}
			all = append(all, bodiesOf(again))
			goesOn(what, d, s)
		}
	}
}

// P19.5: whenever the power goes within Put, the bodies are those that were there, or the new one too; the store that was there and one that is opened go on with all that they say.
func TestPutPower(t *testing.T) {
	for _, file := range []string{"", rec(3, "a") + rec(2, "b"), rec(1, "a") + "P\x06", rec(1, "P") + rec(2, "")} {
		goesOn := func(what string, d *vdisk.Disk, old *Store) {
			t.Helper()
			l := map[int]string{}
			is := func(s *Store) {
				t.Helper()
				for n, b := range l {
					if got, ok := s.Get(n); string(got) != b || !ok {
						t.Errorf("%s: %d is %q %v, not %q", what, n, got, ok, b)
					}
				}
			}
			for i, s := range []*Store{old, nil} {
				if s == nil {
					s = opens(t, d)
				}
				for _, b := range []string{"other", "new", fmt.Sprint("more", i)} {
					n, e := s.Put([]byte(b))
					if was, ok := l[n]; e != api.OK || ok && was != b {
						t.Errorf("%s: %q: %d %d", what, b, n, e)
					}
					l[n] = b
					is(s)
					is(opens(t, d))
				}
				if got, want := tells(opens(t, d)), tells(s); got != want {
					t.Errorf("%s: %s, not %s", what, got, want)
				}
			}
		}
		do := func(s *Store) api.Errno { _, e := s.Put([]byte("new")); return e }
		got := behindCrash(t, file, do, goesOn)
		was := bodiesOf(opens(t, disk(1000, "bodies", file)))
		s := opens(t, disk(1000, "bodies", file))
		do(s)
		want := []string{was, bodiesOf(s)}
		slices.Sort(want)
		if !slices.Equal(got, want) {
			t.Errorf("%q, not %q", got, want)
		}
	}
}

// P19.4, P19.5: whenever the power goes within Keep, the bodies are those that were there, or those that stay; the store that was there and one that is opened go on with all that they say.
func TestKeepPower(t *testing.T) {
	for _, c := range []struct {
		file string
		l    []int
	}{
		{rec(1, "a") + rec(2, "b") + rec(3, "c"), nil},
		{rec(1, "a") + rec(2, "b") + rec(3, "c"), []int{1}},
		{rec(1, "a") + rec(2, "b") + rec(3, "c"), []int{2, 3}},
		{"x" + rec(2, "b"), []int{2}},
		{rec(1, "a") + rec(1, ""), nil},
	} {
		goesOn := func(what string, d *vdisk.Disk, old *Store) {
			t.Helper()
			for _, s := range []*Store{old, nil} {
				if s == nil {
					s = opens(t, d)
				}
				for _, b := range []string{"c", "b", "a", "d"} {
					n, e := s.Put([]byte(b))
					if e != api.OK {
						t.Errorf("%s: %q: %d", what, b, e)
					}
					if got, ok := opens(t, d).Get(n); string(got) != b || !ok {
						t.Errorf("%s: %d is %q %v, not %q", what, n, got, ok, b)
					}
				}
				if got, want := tells(opens(t, d)), tells(s); got != want {
					t.Errorf("%s: %s, not %s", what, got, want)
				}
				all := s.Numbers()
				if n, e := s.Keep(all[len(all)-2:]); n != len(all)-2 || e != api.OK {
					t.Errorf("%s: %d %d", what, n, e)
				}
				if got, want := tells(opens(t, d)), tells(s); got != want {
					t.Errorf("%s: %s, not %s", what, got, want)
				}
			}
		}
		do := func(s *Store) api.Errno { _, e := s.Keep(c.l); return e }
		got := behindCrash(t, c.file, do, goesOn)
		s := opens(t, disk(1000, "bodies", c.file))
		want := []string{bodiesOf(s)}
		do(s)
		want = append(want, bodiesOf(s))
		slices.Sort(want)
		if want = slices.Compact(want); !slices.Equal(got, want) {
			t.Errorf("%q, not %q", got, want)
		}
	}
}

// P19.5: a body that went with a Keep that was cut off is put again by the store that was there; one that the power let stand has its number.
func TestCutOff(t *testing.T) {
	d := disk(1000, "bodies", rec(1, "a")+rec(2, "b"))
	s := opens(t, d)
	d.Crash(4)
	keepIs(t, "cut off", s, nil, 0, api.ErrDown)
	// While the power is gone the store tells what it has.
	putIs(t, s, "b", 2, api.OK)
	putIs(t, s, "c", 0, api.ErrDown)
	d.Boot(9, nil)
	putIs(t, s, "b", 3, api.OK)
	is(t, "cut off", s, 4, 0, told{2, "", 2}, told{3, "b", 3})
	d.Crash(1)
	putIs(t, s, "x", 0, api.ErrDown)
	d.Boot(0, []int{99})
	if s.Next() != 4 {
		t.Errorf("next %d", s.Next())
	}
	putIs(t, s, "y", 5, api.OK)
	is(t, "and put", s, 6, 0, told{2, "", 2}, told{3, "b", 3}, told{4, "x", 4}, told{5, "y", 5})
	d.Crash(1)
	putIs(t, s, "z", 0, api.ErrDown)
	d.Boot(0, []int{3})
	keepIs(t, "and broken", s, []int{5}, 3, api.OK)
	is(t, "and broken", s, 6, 0, told{5, "y", 5})
	has(t, "and broken", d, 18, "bodies", rec(5, "y"))
}
