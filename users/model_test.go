package users

import (
	"encoding/binary"
	"fmt"
	"math/rand"
	"reflect"
	"regexp"
	"slices"
	"strings"
	"testing"

	"pigeonhole/api"
)

// plain is a table by the chapter's words: its lists stand in the order in which they are answered.
type plain struct {
	domain  string
	next    int
	users   []api.User
	aliases []api.Alias
}

// plainNames and plainDomains are the forms of names and domains.
var (
	plainNames   = regexp.MustCompile(`^[a-z0-9._-]{1,32}$`)
	plainDomains = regexp.MustCompile(`^[A-Za-z0-9]([A-Za-z0-9-]*[A-Za-z0-9])?(\.[A-Za-z0-9]([A-Za-z0-9-]*[A-Za-z0-9])?)*$`)
	plainLocals  = regexp.MustCompile(`^[ -~]{1,64}$`)
)

// plainDomain tells whether that is a domain.
func plainDomain(s string) bool {
	return plainDomains.MatchString(s) && len(s) <= 64
}

// plainLimit tells whether that is a limit.
func plainLimit(l api.Limit) bool {
	return l.Bytes >= -1 && l.Bytes <= 1<<53 && l.Count >= -1 && l.Count <= 1<<53
}

// plainTargets tells whether an alias may stand for these, however many they are.
func plainTargets(to []string) bool {
	sorted := slices.Sorted(slices.Values(to))
	if len(slices.Compact(sorted)) != len(to) || len(to) == 0 {
		return false
	}
	return !slices.ContainsFunc(to, func(s string) bool { return !plainNames.MatchString(s) })
}

// user is the place of the user with a name; -1, if there is none.
func (p *plain) user(name string) int {
	return slices.IndexFunc(p.users, func(u api.User) bool { return u.Name == name })
}

// alias is the place of the alias with a name; -1, if there is none.
func (p *plain) alias(name string) int {
	return slices.IndexFunc(p.aliases, func(a api.Alias) bool { return a.Name == name })
}

// addUser makes a user.
func (p *plain) addUser(name string, l api.Limit) (int, api.Errno) {
	switch {
	case !plainNames.MatchString(name):
		return 0, api.ErrForm
	case !plainLimit(l):
		return 0, api.ErrArg
	case p.user(name) >= 0 || p.alias(name) >= 0:
		return 0, api.ErrThere
	case len(p.users) == 16 || p.next > 999:
		return 0, api.ErrFull
	}
	p.users = append(p.users, api.User{Number: p.next, Name: name, Limit: l})
	p.next++
	return p.next - 1, api.OK
}

// setLimit sets a user's limit.
func (p *plain) setLimit(name string, l api.Limit) api.Errno {
	i := p.user(name)
	switch {
	case i < 0:
		return api.ErrNone
	case !plainLimit(l):
		return api.ErrArg
	}
	p.users[i].Limit = l
	return api.OK
}

// dropUser takes a user away.
func (p *plain) dropUser(name string) (int, api.Errno) {
	i := p.user(name)
	if i < 0 {
		return 0, api.ErrNone
	}
	n := p.users[i].Number
	p.users = slices.Delete(p.users, i, i+1)
	return n, api.OK
}

// addAlias makes an alias.
func (p *plain) addAlias(name string, to []string) api.Errno {
	i := p.alias(name)
	switch {
	case !plainNames.MatchString(name) || !plainTargets(to):
		return api.ErrForm
	case len(to) > 8:
		return api.ErrLarge
	case p.user(name) >= 0:
		return api.ErrThere
	case i < 0 && len(p.aliases) == 16:
		return api.ErrFull
	}
	if i >= 0 {
		p.aliases = slices.Delete(p.aliases, i, i+1)
	}
	p.aliases = append(p.aliases, api.Alias{Name: name, To: slices.Clone(to)})
	slices.SortFunc(p.aliases, func(a, b api.Alias) int { return strings.Compare(a.Name, b.Name) })
	return api.OK
}

// dropAlias takes an alias away.
func (p *plain) dropAlias(name string) api.Errno {
	i := p.alias(name)
	if i < 0 {
		return api.ErrNone
	}
	p.aliases = slices.Delete(p.aliases, i, i+1)
	return api.OK
}

// leads is all names that lead to a user: the user's own, and then those of aliases, as long as more of them do.
func (p *plain) leads(user string) map[string]bool {
	led := map[string]bool{user: true}
	for more := true; more; {
		more = false
		for _, a := range p.aliases {
			if !led[a.Name] && slices.ContainsFunc(a.To, func(s string) bool { return led[s] }) {
				led[a.Name], more = true, true
			}
		}
	}
	return led
}

// resolve is the users to whom a mailbox leads.
func (p *plain) resolve(a api.Addr) ([]int, api.Errno) {
	if !plainLocals.MatchString(a.Local) || !plainDomain(a.Domain) {
		return nil, api.ErrForm
	}
	var l []int
	for _, u := range p.users {
		if p.leads(u.Name)[plainSmall(a.Local)] && plainSmall(a.Domain) == p.domain {
			l = append(l, u.Number)
		}
	}
	if l == nil {
		return nil, api.ErrNone
	}
	return l, api.OK
}

// plainSmall is a text of bytes below 80 with small letters.
func plainSmall(s string) string {
	return strings.ToLower(s)
}

// text is a text in bytes.
func text(s string) []byte {
	return append(binary.BigEndian.AppendUint32(nil, uint32(len(s))), s...)
}

// bytes are the table's.
func (p *plain) bytes() []byte {
	b := text(p.domain)
	b = binary.BigEndian.AppendUint16(b, uint16(p.next))
	b = append(b, byte(len(p.users)))
	for _, u := range p.users {
		b = binary.BigEndian.AppendUint16(b, uint16(u.Number))
		b = append(b, text(u.Name)...)
		b = binary.BigEndian.AppendUint64(b, uint64(u.Limit.Bytes))
		b = binary.BigEndian.AppendUint64(b, uint64(u.Limit.Count))
	}
	b = append(b, byte(len(p.aliases)))
	for _, a := range p.aliases {
		b = append(append(b, text(a.Name)...), byte(len(a.To)))
		for _, s := range a.To {
			b = append(b, text(s)...)
		}
	}
	return b
}

// right tells whether there is such a table.
func (p *plain) right() bool {
	names := map[string]bool{}
	last := 0
	for _, u := range p.users {
		if !plainNames.MatchString(u.Name) || names[u.Name] || !plainLimit(u.Limit) || u.Number <= last || u.Number >= p.next {
			return false
		}
		names[u.Name], last = true, u.Number
	}
	ahead := ""
	for _, a := range p.aliases {
		if !plainNames.MatchString(a.Name) || names[a.Name] || a.Name <= ahead || !plainTargets(a.To) || len(a.To) > 8 {
			return false
		}
		ahead = a.Name
	}
	return plainDomain(p.domain) && plainSmall(p.domain) == p.domain && p.next >= 1 && p.next <= 1000 && len(p.users) <= 16 && len(p.aliases) <= 16
}

// plainRead is the table whose bytes that is.
func plainRead(b []byte) (p *plain, e api.Errno) {
	take := func(n int) []byte {
		if e == api.OK && n > len(b) {
			e = api.ErrShort
		}
		if e != api.OK {
			return make([]byte, 8)
		}
		taken := b[:n]
		b = b[n:]
		return taken
	}
	number := func(size int) int {
		return int(binary.BigEndian.Uint64(append(make([]byte, 8-size), take(size)[:size]...)))
	}
	text := func() string {
		n := number(4)
		if e == api.OK && n > 65536 {
			e = api.ErrForm
		}
		return string(take(n))
	}
	p = &plain{domain: text(), next: number(2)}
	for n := number(1); n > 0 && e == api.OK; n-- {
		p.users = append(p.users, api.User{Number: number(2), Name: text(), Limit: api.Limit{Bytes: number(8), Count: number(8)}})
	}
	for n := number(1); n > 0 && e == api.OK; n-- {
		a := api.Alias{Name: text()}
		for n := number(1); n > 0 && e == api.OK; n-- {
			a.To = append(a.To, text())
		}
		p.aliases = append(p.aliases, a)
	}
	if e == api.OK && (len(b) > 0 || !p.right()) {
		e = api.ErrForm
	}
	if e != api.OK {
		return nil, e
	}
	return p, api.OK
}

// alike fails, unless a table is as it should be, in all that is told of it.
func alike(t *testing.T, x *Table, p *plain) {
	t.Helper()
	if x.Domain() != p.domain {
		t.Fatalf("domain %q, not %q", x.Domain(), p.domain)
	}
	if l := x.Users(); !slices.Equal(l, p.users) {
		t.Fatalf("users %v, not %v", l, p.users)
	}
	if l := x.Aliases(); !slices.EqualFunc(l, p.aliases, func(a, b api.Alias) bool { return reflect.DeepEqual(a, b) }) {
		t.Fatalf("aliases %v, not %v", l, p.aliases)
	}
	if b := x.Bytes(); string(b) != string(p.bytes()) {
		t.Fatalf("bytes %x, not %x", b, p.bytes())
	}
	for _, u := range p.users {
		if v, ok := x.User(u.Number); v != u || !ok {
			t.Fatalf("User(%d): %v %v", u.Number, v, ok)
		}
		if v, ok := x.Find(u.Name); v != u || !ok {
			t.Fatalf("Find(%q): %v %v", u.Name, v, ok)
		}
	}
}

// leadsAlike fails, unless a mailbox leads to whom it should.
func leadsAlike(t *testing.T, x *Table, p *plain, a api.Addr) {
	t.Helper()
	want, wrong := p.resolve(a)
	if l, e := x.Resolve(a); !slices.Equal(l, want) || e != wrong {
		t.Fatalf("Resolve(%q) of %v and %v: %v %v, not %v %v", a, p.users, p.aliases, l, e, want, wrong)
	}
}

// asTold fails, unless bytes are read as the chapter's words tell.
func asTold(t *testing.T, b []byte) {
	t.Helper()
	kept := slices.Clone(b)
	want, wrong := plainRead(b)
	x, e := Read(b)
	if e != wrong || (x == nil) != (want == nil) {
		t.Fatalf("Read(%.2000x): %v %v, not %v %v", b, x, e, want, wrong)
	}
	if string(b) != string(kept) {
		t.Fatalf("Read(%.2000x) left %.2000x", kept, b)
	}
	if x != nil {
		alike(t, x, want)
	}
}

// drawn draws tables' calls.
type drawn struct {
	*rand.Rand
	names  []string
	limits []api.Limit
}

// newDrawn draws from few names, so that they meet, or from more than a table may have.
func newDrawn(seed int64) *drawn {
	d := &drawn{Rand: rand.New(rand.NewSource(seed)), names: []string{"", "A", "a b", strings.Repeat("a", 33), "a@x"}}
	for i := range 4 + d.Intn(40) {
		d.names = append(d.names, fmt.Sprint("n", i), fmt.Sprint("n", i))
	}
	for range 5 {
		d.limits = append(d.limits, api.Limit{Bytes: -1, Count: d.Intn(9)}, api.Limit{Bytes: 1 << 53, Count: -1}, api.Limit{Bytes: d.Intn(999)})
	}
	d.limits = append(d.limits, api.Limit{Bytes: -2}, api.Limit{Count: 1<<53 + 1})
	return d
}

// name draws a name, or what is none.
func (d *drawn) name() string {
	return d.names[d.Intn(len(d.names))]
}

// targets draws names for an alias, now and then wrong ones.
func (d *drawn) targets() []string {
	var l []string
	for range 1 + d.Intn(4)*d.Intn(4) {
		if s := d.name(); !slices.Contains(l, s) && plainNames.MatchString(s) || d.Intn(40) == 0 {
			l = append(l, s)
		}
	}
	return l
}

// call makes a call of both, and tells what they answer.
func (d *drawn) call(x *Table, p *plain) (got, want string) {
	name, limit, to := d.name(), d.limits[d.Intn(len(d.limits))], d.targets()
	switch d.Intn(9) {
	case 0, 1, 2:
		n, e := x.AddUser(name, limit)
		m, f := p.addUser(name, limit)
		return fmt.Sprint("AddUser ", name, limit, n, e), fmt.Sprint("AddUser ", name, limit, m, f)
	case 3:
		return fmt.Sprint("SetLimit ", name, limit, x.SetLimit(name, limit)), fmt.Sprint("SetLimit ", name, limit, p.setLimit(name, limit))
	case 4:
		n, e := x.DropUser(name)
		m, f := p.dropUser(name)
		return fmt.Sprint("DropUser ", name, n, e), fmt.Sprint("DropUser ", name, m, f)
	case 5:
		return fmt.Sprint("DropAlias ", name, x.DropAlias(name)), fmt.Sprint("DropAlias ", name, p.dropAlias(name))
	}
	return fmt.Sprint("AddAlias ", name, to, x.AddAlias(name, to)), fmt.Sprint("AddAlias ", name, to, p.addAlias(name, to))
}

// P13.1 to P13.6: drawn calls of a table, of one that was read from its bytes, and of a copy.
func TestDrawnCalls(t *testing.T) {
	for seed := range 60 {
		d := newDrawn(int64(seed))
		x, p := New("X.Org"), &plain{domain: "x.org", next: 1}
		for range 300 {
			got, want := d.call(x, p)
			if got != want {
				t.Fatalf("%d: %s, not %s", seed, got, want)
			}
			alike(t, x, p)
			leadsAlike(t, x, p, api.Addr{Local: strings.ToUpper(d.name()), Domain: []string{"x.ORG", "x.org", "y.org"}[d.Intn(3)]})
			asTold(t, x.Bytes())
			switch d.Intn(10) {
			case 0:
				x, _ = Read(x.Bytes())
			case 1:
				x = x.Clone()
			}
			alike(t, x, p)
		}
		for _, name := range d.names {
			leadsAlike(t, x, p, api.Addr{Local: name, Domain: "x.org"})
		}
	}
}
