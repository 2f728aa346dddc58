package users

import (
	"fmt"
	"slices"
	"strings"
	"testing"

	"pigeonhole/api"
)

// unmade fails, unless AddAlias answers that error, and does nothing.
func unmade(t *testing.T, x *Table, name string, to []string, want api.Errno) {
	t.Helper()
	stays(t, x, func() {
		if e := x.AddAlias(name, to); e != want {
			t.Errorf("AddAlias(%.99q, %.999q): %v, not %v", name, to, e, want)
		}
	})
}

// led fails, unless a local part at the table's domain leads to these users, or to none.
func led(t *testing.T, x *Table, local string, want ...int) {
	t.Helper()
	wrong := api.OK
	if want == nil {
		wrong = api.ErrNone
	}
	if l, e := x.Resolve(at(local, x.Domain())); !slices.Equal(l, want) || e != wrong {
		t.Errorf("Resolve(%q): %v %v, not %v %v", local, l, e, want, wrong)
	}
}

// letters are so many names of one letter.
func letters(n int) []string {
	return strings.Split("abcdefghijklmnopqrstuvwxyz"[:n], "")
}

// P13.3: aliases are made, and made anew, for names that needn't be anybody's.
func TestAddAlias(t *testing.T) {
	x := with("ann")
	for i, c := range []struct {
		name string
		to   []string
	}{{"all", []string{"ann"}}, {"b", []string{"z", "ann", "b"}}, {"all", []string{"b"}}, {many("z", 32), []string{many("y", 32)}}, {"0", letters(8)}, {".-_", []string{".", "-", "_"}}, {"all", []string{"all"}}} {
		if e := x.AddAlias(c.name, c.to); e != api.OK {
			t.Errorf("%d: %v", i, e)
		}
		if !slices.ContainsFunc(x.Aliases(), func(a api.Alias) bool { return a.Name == c.name && slices.Equal(a.To, c.to) }) {
			t.Errorf("%d: %v", i, x.Aliases())
		}
	}
	if l := x.Aliases(); len(l) != 5 {
		t.Errorf("%v", l)
	}
}

// P13.3: wrong names, for whatever they stand, and wrong ones for which one is to stand.
func TestAddAliasForm(t *testing.T) {
	x := with("ann")
	for v := range 256 {
		good := strings.Contains("abcdefghijklmnopqrstuvwxyz0123456789.-_", one(v))
		for _, s := range []string{one(v), "b" + one(v), one(v) + "b", "b" + one(v) + "b"} {
			if good {
				if e, f := with().AddAlias(s, []string{"b"}), with().AddAlias("b", []string{"cc", s}); e != api.OK || f != api.OK {
					t.Errorf("%q: %v %v", s, e, f)
				}
				continue
			}
			unmade(t, x, s, []string{"ann"}, api.ErrForm)
			unmade(t, x, "b", []string{s}, api.ErrForm)
			unmade(t, x, "b", []string{"c", s, "d"}, api.ErrForm)
		}
	}
	for _, s := range []string{"", many("a", 33), many("a", 100000), "a b", "\u00e9", "\u212a", "Ann", "ann@x.org"} {
		unmade(t, x, s, []string{"ann"}, api.ErrForm)
		unmade(t, x, "b", []string{s}, api.ErrForm)
		unmade(t, x, "b", []string{"ann", s}, api.ErrForm)
	}
	for _, to := range [][]string{nil, {}, {"a", "a"}, {"a", "b", "a"}, {"b", "a", "a"}, append(letters(7), "a")} {
		unmade(t, x, "z", to, api.ErrForm)
	}
}

// P13.3: 8 names are the most; how many there are is looked at once they are right.
func TestAddAliasLarge(t *testing.T) {
	x := with("ann")
	unmade(t, x, "b", letters(9), api.ErrLarge)
	unmade(t, x, "b", letters(26), api.ErrLarge)
	unmade(t, x, "b", append(letters(9), "a"), api.ErrForm)
	unmade(t, x, "b", append(letters(9), "A"), api.ErrForm)
	var l []string
	for i := range 100000 {
		l = append(l, fmt.Sprint(i))
	}
	unmade(t, x, "b", l, api.ErrLarge)
	unmade(t, x, "b", append(l, "99999"), api.ErrForm)
	unmade(t, x, "b", append(l, ""), api.ErrForm)
	if e := x.AddAlias("b", letters(8)); e != api.OK {
		t.Errorf("%v", e)
	}
}

// P13.3: at most 16 aliases; one that is there may still stand for others.
func TestAddAliasFull(t *testing.T) {
	x := full()
	unmade(t, x, "b", []string{"a0"}, api.ErrFull)
	if e := x.AddAlias("a3", []string{"u4"}); e != api.OK {
		t.Errorf("%v", e)
	}
	led(t, x, "a3", 5)
	if e := x.DropAlias("a5"); e != api.OK {
		t.Errorf("%v", e)
	}
	if e := x.AddAlias("b", []string{"a0"}); e != api.OK {
		t.Errorf("%v", e)
	}
	unmade(t, x, "a5", []string{"a0"}, api.ErrFull)
}

// P13.3: where several errors hold, the one named first is answered.
func TestAddAliasOrder(t *testing.T) {
	x := full()
	unmade(t, x, "U0", letters(9), api.ErrForm)
	unmade(t, x, "u0", nil, api.ErrForm)
	unmade(t, x, "u0", []string{"a", "a"}, api.ErrForm)
	unmade(t, x, "b", []string{"A"}, api.ErrForm)
	unmade(t, x, "u0", letters(9), api.ErrLarge)
	unmade(t, x, "b", letters(9), api.ErrLarge)
	unmade(t, x, "a0", letters(9), api.ErrLarge)
	unmade(t, x, "u0", letters(8), api.ErrThere)
	unmade(t, x, "b", letters(8), api.ErrFull)
}

// P13.3: an alias goes by its own name, and leaves those that stand for it.
func TestDropAlias(t *testing.T) {
	x := with("ann")
	x.AddAlias("all", []string{"ann"})
	x.AddAlias("b", []string{"all"})
	for _, s := range []string{"", "ann", "c", "ALL", "al", many("a", 33)} {
		stays(t, x, func() {
			if e := x.DropAlias(s); e != api.ErrNone {
				t.Errorf("DropAlias(%q): %v", s, e)
			}
		})
	}
	led(t, x, "b", 1)
	if e := x.DropAlias("all"); e != api.OK {
		t.Errorf("%v", e)
	}
	if e := x.DropAlias("all"); e != api.ErrNone {
		t.Errorf("again: %v", e)
	}
	led(t, x, "all")
	led(t, x, "b")
	alike(t, x, &plain{domain: "x.org", next: 2, users: []api.User{{Number: 1, Name: "ann", Limit: free}}, aliases: []api.Alias{{Name: "b", To: []string{"all"}}}})
}

// P13.4: aliases by rising name, byte by byte, each with its names as they came.
func TestAliases(t *testing.T) {
	if l := with("ann").Aliases(); len(l) != 0 {
		t.Errorf("%v", l)
	}
	x := with("ann")
	names := []string{"-", ".", "0", "10", "9", "_", "a", "a-", "a-b", "a.", "a0", "a_", "aa", "b"}
	for _, i := range []int{5, 12, 0, 7, 13, 3, 9, 1, 11, 6, 2, 10, 4, 8} {
		x.AddAlias(names[i], []string{"z", "c", "y", names[i]})
	}
	for i, a := range x.Aliases() {
		if a.Name != names[i] || !slices.Equal(a.To, []string{"z", "c", "y", names[i]}) {
			t.Errorf("%d: %v", i, a)
		}
	}
}

// P13.5: the chapter's example, and names that lead to nobody.
func TestResolve(t *testing.T) {
	x := with("ann", "bob")
	x.AddAlias("all", []string{"ann", "bob", "all"})
	x.AddAlias("turned", []string{"bob", "ann"})
	x.AddAlias("none", []string{"cy", "nil"})
	x.AddAlias("nil", []string{"none"})
	x.AddAlias("self", []string{"self"})
	led(t, x, "ALL", 1, 2)
	led(t, x, "turned", 1, 2)
	led(t, x, "ann", 1)
	led(t, x, "BoB", 2)
	for _, s := range []string{"none", "nil", "self", "cy", "an", "annn", " ann", "ann ", "a b", "\"ann\"", "ann@x.org", "@", "~", "ann@", many("a", 64)} {
		led(t, x, s)
	}
	x.AddUser("cy", free)
	led(t, x, "none", 3)
	led(t, x, "nil", 3)
}

// P13.5: what isn't good is of the wrong form, whatever its domain is; others' domains are nobody's.
func TestResolveErrors(t *testing.T) {
	x := with("ann", "x")
	for a, want := range map[api.Addr]api.Errno{
		at("ann", "x.org"): api.OK, at("Ann", "X.ORG"): api.OK, at("ANN", "x.Org"): api.OK,
		at("ann", "y.org"): api.ErrNone, at("ann", "org"): api.ErrNone, at("ann", "x"): api.ErrNone, at("ann", "a.x.org"): api.ErrNone, at("ann", "ax.org"): api.ErrNone, at("ann", "x.orga"): api.ErrNone, at("ann", "x-org"): api.ErrNone, at("ann@x.org", "y"): api.ErrNone, at("ann@x.org", "x.org"): api.ErrNone, at("@x.org", "x.org"): api.ErrNone, at("zed", "y.org"): api.ErrNone,
		{}: api.ErrForm, at("ann", ""): api.ErrForm, at("", "x.org"): api.ErrForm, at("", "y.org"): api.ErrForm, at("ann", "x.org."): api.ErrForm, at("ann", ".x.org"): api.ErrForm, at("ann", "a@x.org"): api.ErrForm, at("ann\r\n", "x.org"): api.ErrForm, at("ann\x00", "y.org"): api.ErrForm, at("\u212a", "x.org"): api.ErrForm, at(many("a", 65), "x.org"): api.ErrForm, at("ann", many("x", 65)): api.ErrForm,
	} {
		l, e := x.Resolve(a)
		if e != want || (e == api.OK) != slices.Equal(l, []int{1}) || e != api.OK && len(l) != 0 {
			t.Errorf("Resolve(%q): %v %v, not %v", a, l, e, want)
		}
		leadsAlike(t, x, &plain{domain: "x.org", next: 3, users: x.Users()}, a)
	}
}

// P13.5: aliases of aliases, as deep as they may be, in rings, and to one user by several ways.
func TestResolveFar(t *testing.T) {
	x := with("ann", "bob", "cy")
	for i := range 16 {
		x.AddAlias(fmt.Sprint("a", i), []string{"gone", fmt.Sprint("a", (i+1)%16)})
	}
	led(t, x, "a0")
	x.AddAlias("a15", []string{"cy", "a0", "ann"})
	for i := range 16 {
		led(t, x, fmt.Sprint("a", i), 1, 3)
	}
	x.AddAlias("a7", []string{"bob", "cy", "a8", "a6"})
	led(t, x, "a9", 1, 2, 3)
	x.AddAlias("a15", []string{"ann"})
	led(t, x, "a9", 1)
	led(t, x, "a2", 1, 2, 3)
	x = full()
	var all, more []string
	for i := range 8 {
		all, more = append(all, fmt.Sprint("u", 7-i)), append(more, fmt.Sprint("u", 8+i))
	}
	x.AddAlias("a0", append(all[1:], "a1"))
	x.AddAlias("a1", append(more[1:], "a0"))
	led(t, x, "A0", 1, 2, 3, 4, 5, 6, 7, 10, 11, 12, 13, 14, 15, 16)
}

// P13.6: lists handed in and answered are nobody's but the caller's.
func TestAliasMemory(t *testing.T) {
	x := with("ann", "bob")
	whole := []string{"ann", "bob", "cy", "dan"}
	x.AddAlias("all", whole[:2])
	if !slices.Equal(whole, []string{"ann", "bob", "cy", "dan"}) {
		t.Errorf("left %v", whole)
	}
	clear(whole)
	led(t, x, "all", 1, 2)
	x.AddAlias("two", []string{"ann", "bob"})
	stays(t, x, func() {
		l, again := x.Aliases(), x.Aliases()
		l[0].To[0], l[0].Name = "x", "y"
		_ = append(l[0].To, "z", "z")
		_ = append(l[:1], api.Alias{})
		u := x.Users()
		u[0].Name, u[1].Limit.Bytes = "x", 5
		n, _ := x.Resolve(at("all", "x.org"))
		n[0] = 5
		if again[0].Name != "all" || again[0].To[0] != "ann" || again[1].Name != "two" {
			t.Errorf("%v", again)
		}
	})
	led(t, x, "all", 1, 2)
}
