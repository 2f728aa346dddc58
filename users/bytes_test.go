package users

import (
	"fmt"
	"math/rand"
	"slices"
	"strings"
	"testing"

	"pigeonhole/api"
)

// sample is a table with users, of whom one is gone, and aliases.
func sample() *Table {
	x := New("X.org")
	x.AddUser("ann", api.Limit{Bytes: 258, Count: -1})
	x.AddUser("gone", free)
	x.AddUser("b", api.Limit{Bytes: most, Count: 0})
	x.DropUser("gone")
	x.AddAlias("two", []string{"b", "ann"})
	x.AddAlias("all", []string{"x"})
	return x
}

// sampleBytes are the sample's, by hand.
const sampleBytes = "\x00\x00\x00\x05x.org" + "\x00\x04" +
	"\x02" + "\x00\x01" + "\x00\x00\x00\x03ann" + "\x00\x00\x00\x00\x00\x00\x01\x02" + "\xff\xff\xff\xff\xff\xff\xff\xff" +
	"\x00\x03" + "\x00\x00\x00\x01b" + "\x00\x20\x00\x00\x00\x00\x00\x00" + "\x00\x00\x00\x00\x00\x00\x00\x00" +
	"\x02" + "\x00\x00\x00\x03all" + "\x01" + "\x00\x00\x00\x01x" +
	"\x00\x00\x00\x03two" + "\x02" + "\x00\x00\x00\x01b" + "\x00\x00\x00\x03ann"

// samplePlain is the sample by the chapter's words.
func samplePlain() *plain {
	return &plain{
		domain: "x.org", next: 4,
		users:   []api.User{{Number: 1, Name: "ann", Limit: api.Limit{Bytes: 258, Count: -1}}, {Number: 3, Name: "b", Limit: api.Limit{Bytes: most}}},
		aliases: []api.Alias{{Name: "all", To: []string{"x"}}, {Name: "two", To: []string{"b", "ann"}}},
	}
}

// turned is the sample's bytes with something turned.
func turned(turn func(p *plain)) []byte {
	p := samplePlain()
	turn(p)
	return p.bytes()
}

// unread fails, unless Read answers that error, and no table.
func unread(t *testing.T, what string, b []byte, want api.Errno) {
	t.Helper()
	if x, e := Read(b); x != nil || e != want {
		t.Errorf("%s: %v %v, not %v", what, x, e, want)
	}
	if _, e := plainRead(b); e != want {
		t.Errorf("%s: by the chapter's words %v", what, e)
	}
}

// P13.6: a table's bytes, by hand, written and read.
func TestBytes(t *testing.T) {
	if b := with().Bytes(); string(b) != "\x00\x00\x00\x05x.org\x00\x01\x00\x00" {
		t.Errorf("without users: %q", b)
	}
	x := sample()
	if b := x.Bytes(); string(b) != sampleBytes {
		t.Errorf("%q", b)
	}
	alike(t, x, samplePlain())
	y, e := Read([]byte(sampleBytes))
	if y == nil || e != api.OK {
		t.Fatalf("%v", e)
	}
	alike(t, y, samplePlain())
	if n, e := y.AddUser("new", free); n != 4 || e != api.OK {
		t.Errorf("%d %v", n, e)
	}
	led(t, y, "TWO", 1, 3)
	asTold(t, full().Bytes())
}

// P13.6: bytes that end too early.
func TestReadShort(t *testing.T) {
	for _, x := range []*Table{with(), sample(), full()} {
		b := x.Bytes()
		for i := range b {
			// What is behind the length is there, but isn't read.
			unread(t, fmt.Sprint(i, " bytes"), b[:i], api.ErrShort)
			unread(t, fmt.Sprint(i, " bytes alone"), slices.Clone(b[:i]), api.ErrShort)
		}
	}
	unread(t, "nothing", nil, api.ErrShort)
}

// P13.6: bytes that end too early are told ahead of what is wrong in them.
func TestReadShortAhead(t *testing.T) {
	wrong := &plain{domain: "-", next: 0, users: []api.User{{Number: 0, Name: "", Limit: api.Limit{Bytes: -2}}, {Name: many("A", 70)}}, aliases: []api.Alias{{Name: "B"}, {Name: "A", To: letters(26)}}}
	b := wrong.bytes()
	for i := range b {
		unread(t, fmt.Sprint(i, " bytes"), b[:i], api.ErrShort)
	}
	unread(t, "all", b, api.ErrForm)
	unread(t, "too many users", []byte("\x00\x00\x00\x01x\x00\x01\xff"), api.ErrShort)
	unread(t, "too many aliases", []byte("\x00\x00\x00\x01x\x00\x01\x00\xff\x00\x00\x00\x00"), api.ErrShort)
}

// P13.6: texts of more than 65,536 bytes are of the wrong form, be they there or not; shorter ones are read.
func TestReadLong(t *testing.T) {
	for n, want := range map[int]api.Errno{65535: api.ErrForm, 65536: api.ErrForm, 65537: api.ErrForm, 1 << 20: api.ErrForm} {
		s := many("a", n)
		for what, b := range map[string][]byte{
			"domain": turned(func(p *plain) { p.domain = s }),
			"user":   turned(func(p *plain) { p.users[1].Name = s }),
			"alias":  turned(func(p *plain) { p.aliases[0].Name = s }),
			"target": turned(func(p *plain) { p.aliases[1].To[1] = s }),
		} {
			unread(t, what, b, want)
			short := api.ErrShort
			if n > 65536 {
				short = api.ErrForm
			}
			unread(t, what+" that ends", b[:strings.Index(string(b), "aaaaaa")+6], short)
		}
	}
	for s, want := range map[string]api.Errno{"\x00\x01\x00\x00": api.ErrShort, "\x00\x01\x00\x01": api.ErrForm, "\xff\xff\xff\xff": api.ErrForm, "\x80\x00\x00\x00": api.ErrForm, "\x7f\xff\xff\xff": api.ErrForm, "\xff\xff\xff": api.ErrShort} {
		unread(t, fmt.Sprintf("%q", s), []byte(s), want)
	}
}

// P13.6: bytes that are no table's, though all is there.
func TestReadForm(t *testing.T) {
	u := func(n int, name string) api.User { return api.User{Number: n, Name: name} }
	for what, turn := range map[string]func(p *plain){
		"no domain":          func(p *plain) { p.domain = "" },
		"a wrong domain":     func(p *plain) { p.domain = "x.org." },
		"great letters":      func(p *plain) { p.domain = "X.org" },
		"a long domain":      func(p *plain) { p.domain = many("x", 65) },
		"next 0":             func(p *plain) { p.next, p.users = 0, nil },
		"next 1001":          func(p *plain) { p.next = 1001 },
		"next 65535":         func(p *plain) { p.next = 65535 },
		"next that is there": func(p *plain) { p.next = 3 },
		"next below":         func(p *plain) { p.next = 2 },
		"number 0":           func(p *plain) { p.users[0].Number = 0 },
		"number 1000":        func(p *plain) { p.users[1].Number, p.next = 1000, 1001 },
		"number 1000, next":  func(p *plain) { p.users[1].Number, p.next = 1000, 1000 },
		"number 65535":       func(p *plain) { p.users[1].Number = 65535 },
		"falling numbers":    func(p *plain) { slices.Reverse(p.users) },
		"a number twice":     func(p *plain) { p.users[1].Number = 1 },
		"no name":            func(p *plain) { p.users[0].Name = "" },
		"a great name":       func(p *plain) { p.users[0].Name = "Ann" },
		"a long name":        func(p *plain) { p.users[1].Name = many("a", 33) },
		"a name twice":       func(p *plain) { p.users[1].Name = "ann" },
		"an alias's name":    func(p *plain) { p.users[1].Name = "all" },
		"bytes -2":           func(p *plain) { p.users[0].Limit.Bytes = -2 },
		"bytes too many":     func(p *plain) { p.users[0].Limit.Bytes = most + 1 },
		"count -2":           func(p *plain) { p.users[1].Limit.Count = -2 },
		"count too many":     func(p *plain) { p.users[1].Limit.Count = most + 1 },
		"count least":        func(p *plain) { p.users[1].Limit.Count = -1 << 63 },
		"17 users": func(p *plain) {
			for i := range 15 {
				p.users = append(p.users, u(4+i, fmt.Sprint("u", i)))
			}
			p.next = 30
		},
		"falling aliases":     func(p *plain) { slices.Reverse(p.aliases) },
		"an alias twice":      func(p *plain) { p.aliases[0] = p.aliases[1] },
		"an alias anew":       func(p *plain) { p.aliases[0].Name = "two" },
		"a user's alias":      func(p *plain) { p.aliases[0].Name = "ann" },
		"no alias's name":     func(p *plain) { p.aliases[0].Name = "" },
		"a great alias":       func(p *plain) { p.aliases[0].Name = "ALL" },
		"a long alias":        func(p *plain) { p.aliases[0].Name = many("a", 33) },
		"for none":            func(p *plain) { p.aliases[0].To = nil },
		"for no name":         func(p *plain) { p.aliases[0].To = []string{""} },
		"for a great name":    func(p *plain) { p.aliases[0].To = []string{"x", "Y"} },
		"for a long name":     func(p *plain) { p.aliases[0].To = []string{many("a", 33)} },
		"for one twice":       func(p *plain) { p.aliases[1].To = []string{"b", "c", "b"} },
		"for 9":               func(p *plain) { p.aliases[1].To = letters(9) },
		"for 255":             func(p *plain) { p.aliases[1].To = slices.Repeat([]string{"a"}, 255) },
		"17 aliases":          func(p *plain) { p.aliases = aliases(17) },
		"255 aliases":         func(p *plain) { p.aliases = aliases(255) },
		"255 aliases in one":  func(p *plain) { p.aliases = slices.Repeat(aliases(1), 255) },
		"17 aliases, 1 twice": func(p *plain) { p.aliases = append(aliases(16), aliases(16)[15]) },
	} {
		unread(t, what, turned(turn), api.ErrForm)
		unread(t, what+" and more", append(turned(turn), 0), api.ErrForm)
	}
	for _, s := range []string{"\x00", "a", sampleBytes, many("\xff", 100000)} {
		unread(t, "more", []byte(sampleBytes+s), api.ErrForm)
	}
}

// aliases are so many that are right.
func aliases(n int) []api.Alias {
	var l []api.Alias
	for i := range n {
		l = append(l, api.Alias{Name: fmt.Sprintf("c%03d", i), To: []string{"ann"}})
	}
	return l
}

// P13.6: what is at the edge, but a table still.
func TestReadEdges(t *testing.T) {
	for what, turn := range map[string]func(p *plain){
		"next 1000":           func(p *plain) { p.next = 1000 },
		"number 999":          func(p *plain) { p.users[1].Number, p.next = 999, 1000 },
		"number 2":            func(p *plain) { p.users[1].Number, p.next = 2, 3 },
		"no users":            func(p *plain) { p.users = nil },
		"no users yet":        func(p *plain) { p.users, p.next = nil, 1 },
		"no aliases":          func(p *plain) { p.aliases = nil },
		"limits":              func(p *plain) { p.users[0].Limit, p.users[1].Limit = free, api.Limit{Bytes: most, Count: most} },
		"long names":          func(p *plain) { p.users[0].Name, p.aliases[1].Name = many("a", 32), many("z", 32) },
		"a long domain":       func(p *plain) { p.domain = many("x", 64) },
		"for 8":               func(p *plain) { p.aliases[1].To = letters(8) },
		"for itself":          func(p *plain) { p.aliases[1].To = []string{"two"} },
		"16 aliases":          func(p *plain) { p.aliases = aliases(16) },
		"signs":               func(p *plain) { p.users[0].Name, p.users[1].Name = "-", "_" },
		"names as beginnings": func(p *plain) { p.aliases[0].Name, p.aliases[1].Name = "tw", "tw-" },
	} {
		b := turned(turn)
		x, e := Read(b)
		if x == nil || e != api.OK {
			t.Errorf("%s: %v", what, e)
			continue
		}
		p := samplePlain()
		turn(p)
		alike(t, x, p)
		if string(x.Bytes()) != string(b) {
			t.Errorf("%s: %q", what, x.Bytes())
		}
	}
	x, _ := Read(turned(func(p *plain) { p.next = 1000 }))
	refused(t, x, "new", free, api.ErrFull)
}

// P13.6: the sample's bytes with each byte turned, taken out, or put in, and cut there.
func TestReadTurned(t *testing.T) {
	for i := range len(sampleBytes) {
		for v := range 256 {
			b := []byte(sampleBytes)
			b[i] = byte(v)
			asTold(t, b)
			asTold(t, []byte(sampleBytes[:i]+one(v)+sampleBytes[i:]))
			asTold(t, b[:i+1])
		}
		asTold(t, []byte(sampleBytes[:i]+sampleBytes[i+1:]))
	}
}

// P13.6: drawn bytes, and bytes of drawn tables that are turned here and there.
func TestReadDrawn(t *testing.T) {
	r := rand.New(rand.NewSource(13))
	pieces := []string{"\x00", "\x00", "\x01", "\x02", "\x00\x01", "\x00\x00\x00\x01a", "\x00\x00\x00\x01b", "\x00\x00\x00\x02c.", "\x00\x00\x00\x00\x00\x00\x00\x05", "\xff\xff\xff\xff\xff\xff\xff\xff", "\xff"}
	for range 50000 {
		s := "\x00\x00\x00\x01x\x00"
		for range r.Intn(20) {
			s += pieces[r.Intn(len(pieces))]
		}
		asTold(t, []byte(s))
	}
	for seed := range 30 {
		d := newDrawn(int64(seed))
		x, p := New("x"), &plain{domain: "x", next: 1}
		for range 200 {
			d.call(x, p)
			b := x.Bytes()
			for range 1 + r.Intn(2) {
				b[r.Intn(len(b))] += byte(1 + r.Intn(255)*r.Intn(2))
			}
			asTold(t, b)
		}
	}
}

// P13.6: a copy has the same, and neither changes the other.
func TestClone(t *testing.T) {
	for _, turn := range []func(x *Table){
		func(x *Table) { x.AddUser("new", free) },
		func(x *Table) { x.DropUser("ann") },
		func(x *Table) { x.SetLimit("ann", free) },
		func(x *Table) { x.AddAlias("new", []string{"ann"}) },
		func(x *Table) { x.AddAlias("all", []string{"ann", "b"}) },
		func(x *Table) { x.DropAlias("all") },
	} {
		x := sample()
		y := x.Clone()
		alike(t, y, samplePlain())
		turn(x)
		alike(t, y, samplePlain())
		x = sample()
		y = x.Clone()
		turn(y)
		alike(t, x, samplePlain())
		if string(y.Bytes()) == sampleBytes {
			t.Errorf("%q", y.Bytes())
		}
	}
	x := sample()
	y := x.Clone()
	n, _ := x.AddUser("new", free)
	if m, e := y.AddUser("other", free); m != n || e != api.OK {
		t.Errorf("%d, not %d, %v", m, n, e)
	}
}

// P13.6: bytes handed in aren't kept, and bytes answered are new.
func TestBytesMemory(t *testing.T) {
	b := []byte(sampleBytes + "more")
	x, e := Read(b[:len(sampleBytes)])
	if e != api.OK || string(b) != sampleBytes+"more" {
		t.Fatalf("%v %q", e, b)
	}
	clear(b)
	alike(t, x, samplePlain())
	out, again := x.Bytes(), x.Bytes()
	clear(out)
	_ = append(out, "more"...)
	if string(again) != sampleBytes || string(x.Bytes()) != sampleBytes {
		t.Errorf("%q %q", again, x.Bytes())
	}
}
