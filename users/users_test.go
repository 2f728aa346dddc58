package users

import (
	"fmt"
	"math"
	"slices"
	"strings"
	"testing"

	"pigeonhole/api"
)

// most is the greatest sum.
const most = 1 << 53

// free is a limit that bounds nothing.
var free = api.Limit{Bytes: -1, Count: -1}

// many is a text so often in a row.
func many(s string, n int) string {
	return strings.Repeat(s, n)
}

// one is the text of one byte, even if that is no rune.
func one(v int) string {
	return string([]byte{byte(v)})
}

// at is a mailbox.
func at(local, domain string) api.Addr {
	return api.Addr{Local: local, Domain: domain}
}

// with is a table at x.org with these users.
func with(names ...string) *Table {
	x := New("x.org")
	for _, s := range names {
		x.AddUser(s, free)
	}
	return x
}

// full is a table with as many users and aliases as may be.
func full() *Table {
	x := with()
	for i := range 16 {
		x.AddUser(fmt.Sprint("u", i), free)
		x.AddAlias(fmt.Sprint("a", i), []string{fmt.Sprint("u", i)})
	}
	return x
}

// stays fails, unless a call leaves a table as it was.
func stays(t *testing.T, x *Table, call func()) {
	t.Helper()
	was := x.Bytes()
	call()
	if b := x.Bytes(); string(b) != string(was) {
		t.Errorf("%x was %x", b, was)
	}
}

// refused fails, unless AddUser answers that error, and does nothing.
func refused(t *testing.T, x *Table, name string, l api.Limit, want api.Errno) {
	t.Helper()
	stays(t, x, func() {
		if n, e := x.AddUser(name, l); n != 0 || e != want {
			t.Errorf("AddUser(%.99q, %v): %d %v, not %v", name, l, n, e, want)
		}
	})
}

// P13.1: tables are made of domains, and of nothing else.
func TestNew(t *testing.T) {
	for s, want := range map[string]string{
		"x": "x", "X": "x", "x.org": "x.org", "X.Org": "x.org", "A-B.C-9.0": "a-b.c-9.0", many("A", 64): many("a", 64), "ABCDEFGHIJKLMNOPQRSTUVWXYZ.abcdefghijklmnopqrstuvwxyz": "abcdefghijklmnopqrstuvwxyz.abcdefghijklmnopqrstuvwxyz",
	} {
		x := New(s)
		if x == nil || x.Domain() != want {
			t.Errorf("New(%q): %v", s, x)
			continue
		}
		alike(t, x, &plain{domain: want, next: 1})
		if n, e := x.AddUser("ann", free); n != 1 || e != api.OK {
			t.Errorf("AddUser: %d %v", n, e)
		}
	}
	for _, s := range []string{"", ".", "x.", ".x", "x..y", "-x", "x-", "x.-y", "a b", "a_b", "a@b", "x\r\n", "x\x00", "\u00e9", "\u212a", many("a", 65), many("a.", 40000)} {
		if x := New(s); x != nil {
			t.Errorf("New(%.99q): %v", s, x)
		}
	}
	for v := range 256 {
		if x := New(one(v)); (x != nil) != plainDomain(one(v)) {
			t.Errorf("New(%q): %v", one(v), x)
		}
	}
}

// P13.2: users have numbers one above the other; none comes again, whoever is gone.
func TestAddUser(t *testing.T) {
	x := with()
	l := api.Limit{Bytes: 7, Count: 8}
	for i, name := range []string{"b", "a", "a.b-c_9", many("z", 32), "0", ".", "-", "_", "..", "a-"} {
		if n, e := x.AddUser(name, l); n != i+1 || e != api.OK {
			t.Errorf("AddUser(%q): %d %v", name, n, e)
		}
		if u, ok := x.Find(name); u != (api.User{Number: i + 1, Name: name, Limit: l}) || !ok {
			t.Errorf("Find(%q): %v %v", name, u, ok)
		}
	}
	for _, name := range []string{"a-", "b", "0"} {
		x.DropUser(name)
	}
	if n, e := x.AddUser("b", l); n != 11 || e != api.OK {
		t.Errorf("b again: %d %v", n, e)
	}
	for n := range 5 {
		m, _ := x.AddUser("c", l)
		if k, e := x.DropUser("c"); m != n+12 || k != m || e != api.OK {
			t.Errorf("c: %d %d %v", m, k, e)
		}
	}
}

// P13.2: names of 1 to 32 small letters, digits, and the three signs; all else is none.
func TestAddUserForm(t *testing.T) {
	for v := range 256 {
		good := strings.Contains("abcdefghijklmnopqrstuvwxyz0123456789.-_", one(v))
		for _, s := range []string{one(v), "a" + one(v), one(v) + "a", "a" + one(v) + "a"} {
			n, e := with().AddUser(s, free)
			if good && (n != 1 || e != api.OK) || !good && (n != 0 || e != api.ErrForm) {
				t.Errorf("AddUser(%q): %d %v", s, n, e)
			}
		}
	}
	for _, s := range []string{"", many("a", 33), many("a", 100000), "ann@x.org", "\u00e9", "\u212a", "Ann", "a b"} {
		refused(t, with(), s, free, api.ErrForm)
	}
}

// P13.2: limits have sums, or -1.
func TestAddUserLimit(t *testing.T) {
	for n, good := range map[int]bool{-1: true, 0: true, 1: true, most - 1: true, most: true, -2: false, most + 1: false, math.MinInt: false, math.MaxInt: false} {
		for _, l := range []api.Limit{{Bytes: n}, {Count: n}, {Bytes: n, Count: n}, {Bytes: n, Count: -1}, {Bytes: most, Count: n}} {
			x := with("bob")
			if !good {
				refused(t, x, "ann", l, api.ErrArg)
				stays(t, x, func() {
					if e := x.SetLimit("bob", l); e != api.ErrArg {
						t.Errorf("SetLimit to %v: %v", l, e)
					}
				})
				continue
			}
			if n, e := x.AddUser("ann", l); n != 2 || e != api.OK {
				t.Errorf("AddUser with %v: %d %v", l, n, e)
			}
			if e := x.SetLimit("bob", l); e != api.OK {
				t.Errorf("SetLimit to %v: %v", l, e)
			}
			alike(t, x, &plain{domain: "x.org", next: 3, users: []api.User{{Number: 1, Name: "bob", Limit: l}, {Number: 2, Name: "ann", Limit: l}}})
		}
	}
}

// P13.2: no name comes twice, be it a user's or an alias's; one for which an alias stands may come.
func TestAddUserThere(t *testing.T) {
	x := with("ann")
	x.AddAlias("all", []string{"ann", "cy"})
	refused(t, x, "ann", free, api.ErrThere)
	refused(t, x, "all", free, api.ErrThere)
	if n, e := x.AddUser("cy", free); n != 2 || e != api.OK {
		t.Errorf("%d %v", n, e)
	}
	x.DropAlias("all")
	if n, e := x.AddUser("all", free); n != 3 || e != api.OK {
		t.Errorf("%d %v", n, e)
	}
}

// P13.2: at most 16 users.
func TestAddUserFull(t *testing.T) {
	x := full()
	refused(t, x, "ann", free, api.ErrFull)
	x.DropUser("u3")
	if n, e := x.AddUser("ann", free); n != 17 || e != api.OK {
		t.Errorf("%d %v", n, e)
	}
	refused(t, x, "bob", free, api.ErrFull)
}

// P13.2: 999 is the last number, however few have one.
func TestAddUserNumbers(t *testing.T) {
	x := with()
	for n := 1; n <= 999; n++ {
		if m, e := x.AddUser("ann", free); m != n || e != api.OK {
			t.Fatalf("%d: %d %v", n, m, e)
		}
		if n < 999 {
			x.DropUser("ann")
		}
	}
	if u, ok := x.User(999); u.Name != "ann" || !ok {
		t.Errorf("%v %v", u, ok)
	}
	refused(t, x, "bob", free, api.ErrFull)
	x.DropUser("ann")
	refused(t, x, "bob", free, api.ErrFull)
	alike(t, x, &plain{domain: "x.org", next: 1000})
	asTold(t, x.Bytes())
}

// P13.2: where several errors hold, the one named first is answered.
func TestAddUserOrder(t *testing.T) {
	none := api.Limit{Bytes: -2}
	x := full()
	refused(t, x, "U0", none, api.ErrForm)
	refused(t, x, "U0", free, api.ErrForm)
	refused(t, x, "u0", none, api.ErrArg)
	refused(t, x, "new", none, api.ErrArg)
	refused(t, x, "u0", free, api.ErrThere)
	refused(t, x, "a0", free, api.ErrThere)
	refused(t, x, "new", free, api.ErrFull)
}

// P13.2: limits are those of users alone, and looked at once there is one.
func TestSetLimit(t *testing.T) {
	x := with("ann", "bob")
	x.AddAlias("all", []string{"ann"})
	for _, name := range []string{"", "cy", "all", "Ann", "ann ", "an", many("a", 33)} {
		for _, l := range []api.Limit{free, {Bytes: -2}} {
			stays(t, x, func() {
				if e := x.SetLimit(name, l); e != api.ErrNone {
					t.Errorf("SetLimit(%q): %v", name, e)
				}
			})
		}
	}
	if e := x.SetLimit("bob", api.Limit{Bytes: 5, Count: 6}); e != api.OK {
		t.Errorf("%v", e)
	}
	if l := x.Users(); !slices.Equal(l, []api.User{{Number: 1, Name: "ann", Limit: free}, {Number: 2, Name: "bob", Limit: api.Limit{Bytes: 5, Count: 6}}}) {
		t.Errorf("%v", l)
	}
}

// P13.2: a user goes by the name, and with it all that was found by it; no alias does.
func TestDropUser(t *testing.T) {
	x := with("ann", "bob")
	x.AddAlias("all", []string{"ann", "bob"})
	for _, name := range []string{"", "all", "cy", "ANN", many("a", 33)} {
		stays(t, x, func() {
			if n, e := x.DropUser(name); n != 0 || e != api.ErrNone {
				t.Errorf("DropUser(%q): %d %v", name, n, e)
			}
		})
	}
	if n, e := x.DropUser("ann"); n != 1 || e != api.OK {
		t.Errorf("%d %v", n, e)
	}
	if n, e := x.DropUser("ann"); n != 0 || e != api.ErrNone {
		t.Errorf("again: %d %v", n, e)
	}
	alike(t, x, &plain{domain: "x.org", next: 3, users: []api.User{{Number: 2, Name: "bob", Limit: free}}, aliases: []api.Alias{{Name: "all", To: []string{"ann", "bob"}}}})
	if l, e := x.Resolve(at("all", "x.org")); !slices.Equal(l, []int{2}) || e != api.OK {
		t.Errorf("%v %v", l, e)
	}
}

// P13.4: users by rising number, whatever they are named.
func TestUsers(t *testing.T) {
	if l := with().Users(); len(l) != 0 {
		t.Errorf("%v", l)
	}
	names := []string{"p", "o", "n", "m", "l", "k", "j", "i", "h", "g", "f", "e", "d", "c", "b", "a"}
	x := with(names...)
	x.DropUser("c")
	x.DropUser("p")
	x.AddUser("p", free)
	names = append(names[1:13], "b", "a", "p")
	last := 0
	for i, u := range x.Users() {
		if u.Name != names[i] || u.Number <= last {
			t.Errorf("%d: %v", i, u)
		}
		last = u.Number
	}
	if len(x.Users()) != len(names) {
		t.Errorf("%v", x.Users())
	}
}

// P13.4: users by number and name, and what is none's.
func TestUserAndFind(t *testing.T) {
	x := with("ann", "bob", "cy")
	x.AddAlias("all", []string{"ann"})
	x.DropUser("bob")
	ann, cy := api.User{Number: 1, Name: "ann", Limit: free}, api.User{Number: 3, Name: "cy", Limit: free}
	for n, want := range map[int]api.User{1: ann, 3: cy, 0: {}, 2: {}, 4: {}, -1: {}, 999: {}, 1000: {}, math.MinInt: {}, math.MaxInt: {}, 1 + 1<<16: {}, 1 + 1<<32: {}} {
		if u, ok := x.User(n); u != want || ok != (want.Number != 0) {
			t.Errorf("User(%d): %v %v", n, u, ok)
		}
	}
	for s, want := range map[string]api.User{"ann": ann, "cy": cy, "bob": {}, "all": {}, "Ann": {}, "": {}, "an": {}, "annn": {}, "ann@x.org": {}, "\x00": {}, many("a", 100000): {}} {
		if u, ok := x.Find(s); u != want || ok != (want.Number != 0) {
			t.Errorf("Find(%.99q): %v %v", s, u, ok)
		}
	}
}
