package bodies

import (
	"fmt"
	"math"
	"slices"
	"testing"

	"pigeonhole/api"
)

// keepIs fails, where Keep doesn't answer this.
func keepIs(t *testing.T, what string, s *Store, l []int, want int, fault api.Errno) {
	t.Helper()
	if n, e := s.Keep(l); n != want || e != fault {
		t.Errorf("%s: Keep of %v: %d %d, not %d %d", what, l, n, e, want, fault)
	}
}

// P19.4: what stays, how many go, and what is laid.
func TestKeep(t *testing.T) {
	three := rec(1, "a") + rec(2, "b") + rec(3, "c")
	gone := frameOf(api.Rec{Kind: api.RecGone, Uid: 2})
	for what, c := range map[string]struct {
		file string
		l    []int
		out  int
		laid string
	}{
		"the example":                    {rec(1, "a") + rec(2, "b"), []int{1}, 1, rec(1, "a") + rec(2, "")},
		"the first goes":                 {three, []int{2, 3}, 1, rec(2, "b") + rec(3, "c")},
		"one between goes":               {three, []int{3, 1}, 1, rec(1, "a") + rec(3, "c")},
		"the last goes":                  {three, []int{2, 1}, 1, rec(1, "a") + rec(2, "b") + rec(3, "")},
		"all go":                         {three, nil, 3, rec(3, "")},
		"others are told":                {three, []int{0, 4, -1, math.MaxInt, math.MinInt}, 3, rec(3, "")},
		"told more than once":            {three, []int{2, 2, 7, 2}, 2, rec(2, "b") + rec(3, "")},
		"falling":                        {rec(5, "c") + rec(2, "b") + rec(4, "a") + rec(3, "d"), []int{5, 4, 3}, 1, rec(3, "d") + rec(4, "a") + rec(5, "c")},
		"falling, and the last goes":     {rec(5, "c") + rec(2, "b") + rec(4, "a"), []int{4, 2}, 1, rec(2, "b") + rec(4, "a") + rec(5, "")},
		"one without bytes is the last":  {rec(1, "a") + rec(2, ""), nil, 1, rec(2, "")},
		"two without bytes":              {rec(1, "") + rec(3, ""), []int{9}, 1, rec(3, "")},
		"one without bytes not the last": {rec(1, "") + rec(3, "a"), nil, 2, rec(3, "")},
		"alike":                          {rec(1, "a") + rec(2, "a") + rec(3, "a"), []int{2}, 2, rec(2, "a") + rec(3, "")},
		"the greatest":                   {rec(api.MaxUid, "a"), nil, 1, rec(api.MaxUid, "")},
		"broken ahead":                   {"x" + three, []int{1, 2, 3}, 0, three},
		"broken between and behind":      {rec(1, "a") + "xPx" + rec(2, "") + "P", []int{1}, 0, rec(1, "a") + rec(2, "")},
		"broken, and one goes":           {three + rec(4, "d")[:9], []int{1, 2}, 1, rec(1, "a") + rec(2, "b") + rec(3, "")},
		"broken, falling":                {rec(2, "b") + "x" + rec(1, "a"), []int{1, 2}, 0, rec(1, "a") + rec(2, "b")},
		"broken alone":                   {"xyz", nil, 0, ""},
		"broken alone, and told":         {"xyz", []int{1, 2}, 0, ""},
		"another kind":                   {gone + rec(1, "a"), []int{1}, 0, rec(1, "a")},
		"another kind alone":             {gone, nil, 0, ""},
		"a number twice, and one goes":   {rec(2, "b") + rec(1, "a") + rec(2, "c") + rec(3, "d"), []int{2, 3}, 1, rec(2, "b") + rec(3, "d")},
		"a number twice, and it goes":    {rec(2, "b") + rec(1, "a") + rec(2, ""), []int{1}, 1, rec(1, "a") + rec(2, "")},
		"a number twice, and broken":     {rec(1, "b") + "x" + rec(1, "a"), []int{1}, 0, rec(1, "b")},
	} {
		d := disk(1000, "bodies", c.file, "other", "y")
		s := opens(t, d)
		next := s.Next()
		keepIs(t, what, s, c.l, c.out, api.OK)
		has(t, what, d, 5, "bodies", c.laid, "other", "y")
		fresh := opens(t, disk(1000, "bodies", c.laid))
		if s.Next() != next || tells(s) != tells(fresh) || s.Broken() != 0 {
			t.Errorf("%s: %s, not %s", what, tells(s), tells(fresh))
		}
		// Once more there is nothing to be done.
		keepIs(t, what, s, c.l, 0, api.OK)
		keepIs(t, what, fresh, c.l, 0, api.OK)
		has(t, what, d, 5, "bodies", c.laid, "other", "y")
		if next > api.MaxUid {
			continue
		}
		putIs(t, s, "new", next, api.OK)
		has(t, what, d, 7, "bodies", c.laid+rec(next, "new"), "other", "y")
	}
}

// P19.4: nothing is done, where there is nothing to do, whether the power is there or not.
func TestKeepNothing(t *testing.T) {
	for _, c := range []struct {
		file string
		l    []int
	}{
		{"", nil}, {"", []int{1}}, {rec(1, ""), nil}, {rec(7, ""), []int{}}, {rec(1, "a"), []int{1}}, {rec(1, "a") + rec(2, ""), []int{1}},
		{rec(2, "a") + rec(1, "b"), []int{2, 1, 5}}, {rec(1, "a") + rec(1, "b"), []int{1}}, {rec(3, "a") + rec(3, "b") + rec(4, ""), []int{3}},
	} {
		d := disk(1000, "bodies", c.file)
		s := opens(t, d)
		before := tells(s)
		for range 2 {
			keepIs(t, "nothing", s, c.l, 0, api.OK)
			if got := tells(s); got != before {
				t.Errorf("%q: %s, not %s", c.file, got, before)
			}
			if d.Calls() > 1 {
				t.Errorf("%q: %d calls", c.file, d.Calls())
			}
			down(d)
		}
		d.Boot(9, nil)
		has(t, "nothing", d, 1, "bodies", c.file)
	}
}

// P19.4, P19.5: the number that went is given to no other body; one without bytes has it.
func TestKeepNumbers(t *testing.T) {
	d := disk(1000)
	s := opens(t, d)
	for i, b := range []string{"a", "b", "c"} {
		putIs(t, s, b, i+1, api.OK)
	}
	keepIs(t, "the last goes", s, []int{1}, 2, api.OK)
	is(t, "the last goes", s, 4, 0, told{1, "a", 1}, told{3, "", 3})
	putIs(t, s, "", 3, api.OK)
	putIs(t, s, "c", 4, api.OK)
	keepIs(t, "and it too", s, []int{1, 4}, 1, api.OK)
	is(t, "and it too", s, 5, 0, told{1, "a", 1}, told{4, "c", 4})
	putIs(t, s, "", 5, api.OK)
	putIs(t, s, "b", 6, api.OK)
	keepIs(t, "all go", s, nil, 4, api.OK)
	is(t, "all go", s, 7, 0, told{6, "", 6})
	putIs(t, s, "a", 7, api.OK)
	is(t, "opened", opens(t, d), 8, 0, told{6, "", 6}, told{7, "a", 7})
	// What isn't there is found no more.
	findIs(t, s, "b", 0)
	findIs(t, s, "c", 0)
	keepIs(t, "the other one", s, []int{7}, 1, api.OK)
	findIs(t, s, "", 0)
	findIs(t, s, "a", 7)
}

// P19.4: the error of Swap is answered, beside 0, and all is as it was.
func TestKeepErrors(t *testing.T) {
	file := "x" + rec(1, "a") + rec(2, "b")
	for n, want := range []api.Errno{api.ErrBusy, api.ErrBusy, api.OK, api.ErrBusy, api.OK, api.OK} {
		d := disk(1000, "bodies", file)
		s := opens(t, d)
		before := tells(s)
		d.Fail(n, api.ErrBusy)
		if want == api.OK {
			keepIs(t, fmt.Sprint("call ", n), s, []int{1}, 1, api.OK)
			is(t, fmt.Sprint("call ", n), s, 3, 0, told{1, "a", 1}, told{2, "", 2})
			continue
		}
		keepIs(t, fmt.Sprint("call ", n), s, []int{1}, 0, want)
		if got := tells(s); got != before {
			t.Errorf("call %d: %s, not %s", n, got, before)
		}
		if got := files(d); !slices.Equal(got, []string{"bodies", file}) {
			t.Errorf("call %d: %q", n, got)
		}
		keepIs(t, fmt.Sprint("behind call ", n), s, []int{2}, 1, api.OK)
		is(t, fmt.Sprint("behind call ", n), opens(t, d), 3, 0, told{2, "b", 2})
	}
	// There must be room for both.
	d := disk(len(file)+len(rec(1, "a")+rec(2, ""))-1, "bodies", file)
	s := opens(t, d)
	before := tells(s)
	keepIs(t, "no room", s, []int{1}, 0, api.ErrSpace)
	if got := tells(s); got != before || !slices.Equal(files(d), []string{"bodies", file}) {
		t.Errorf("no room: %s, not %s; %q", got, before, files(d))
	}
	keepIs(t, "room", s, nil, 2, api.OK)
	d = disk(1000, "bodies", file)
	s = opens(t, d)
	down(d)
	keepIs(t, "no power", s, []int{1}, 0, api.ErrDown)
	keepIs(t, "no power", s, []int{1, 2}, 0, api.ErrDown)
	if got := tells(s); got != before {
		t.Errorf("no power: %s, not %s", got, before)
	}
}

// P19.4: what a Swap that was cut off left gives way.
func TestKeepOver(t *testing.T) {
	d := disk(1000, "bodies", rec(1, "a")+rec(2, "b"))
	s := opens(t, d)
	d.Create("bodies.n")
	d.Append("bodies.n", []byte("a part"))
	keepIs(t, "over", s, []int{2}, 1, api.OK)
	has(t, "over", d, 2+6, "bodies", rec(2, "b"))
}
