package addr

import (
	"math/rand"
	"regexp"
	"strings"
	"testing"

	"pigeonhole/api"
)

// refused fails, unless Parse and Read of the path answer that error, and nothing beside it.
func refused(t *testing.T, s string, want api.Errno) {
	t.Helper()
	if a, e := Parse(s); a != (api.Addr{}) || e != want {
		t.Errorf("Parse(%.99q): %q %d, not %d", s, a, e, want)
	}
	for _, path := range []string{"<" + s + ">", "<@r:" + s + ">", "<" + s + "> b"} {
		if a, n, e := Read(path, true); a != (api.Addr{}) || n != 0 || e != want {
			t.Errorf("Read(%.99q): %q %d %d, not %d", path, a, n, e, want)
		}
	}
}

// P5.2: mailboxes as they are written, and what they tell.
func TestParse(t *testing.T) {
	for s, want := range map[string]api.Addr{
		"a@x": {Local: "a", Domain: "x"}, "a.b@x.org": {Local: "a.b", Domain: "x.org"}, "A.B@X-y.9": {Local: "A.B", Domain: "X-y.9"}, "-@x": {Local: "-", Domain: "x"},
		"\"a b\"@x.org": {Local: "a b", Domain: "x.org"}, "\"a.b\"@x": {Local: "a.b", Domain: "x"}, "\" \"@x": {Local: " ", Domain: "x"}, "\"..\"@x": {Local: "..", Domain: "x"}, "\"a@b>\"@x": {Local: "a@b>", Domain: "x"},
		"\"\\\"\"@x": {Local: "\"", Domain: "x"}, "\"\\\\\"@x": {Local: "\\", Domain: "x"}, "\"\\a\\ \\~\"@x": {Local: "a ~", Domain: "x"}, "\"\\\\\\\"\"@x": {Local: "\\\"", Domain: "x"},
		many("a", 64) + "@x": {Local: many("a", 64), Domain: "x"}, "a@" + many("x", 64): {Local: "a", Domain: many("x", 64)}, "\"" + many("\\a", 64) + "\"@x": {Local: many("a", 64), Domain: "x"},
		many("a.", 31) + "aa@" + many("x.", 31) + "xx": {Local: many("a.", 31) + "aa", Domain: many("x.", 31) + "xx"},
	} {
		if a, e := Parse(s); a != want || e != api.OK {
			t.Errorf("Parse(%q): %q %d", s, a, e)
		}
		if a, n, e := Read("<"+s+">", false); a != want || n != len(s)+2 || e != api.OK {
			t.Errorf("Read(<%q>): %q %d %d", s, a, n, e)
		}
	}
}

// P5.2: what isn't a mailbox.
func TestParseForm(t *testing.T) {
	for _, s := range []string{
		"@", "a", "x.org", "a@", "@x", "a@x@y", "a@@x", ".a@x", "a.@x", "a..b@x", ".@x", "a b@x", " a@x", "a@x ", "a @x", "a@ x", "a@x.", "a@.x", "a@x..y", "a@-x", "a@x-", "a@x.-y", "a@[1.2.3.4]", "a@x_y", "<a@x>", "a@x,", "a@x:",
		"\"\"@x", "\"@x", "\"a@x", "a\"@x", "\"a\"\"b\"@x", "\"a\"b@x", "a\"b\"@x", "\"a\".b@x", "a.\"b\"@x", "\"a\"x", "\"a\"", "\"\\\"@x", "\"\\", "\"", "\"a\\\n\"@x", "\"a\n\"@x", "\"\x7f\"@x", "\"\\\x7f\"@x", "\"\\\x1f\"@x", "\"\xc3\xa9\"@x", "\u00e9@x", "a\\b@x", "a(b@x", "a,b@x", "a:b@x", "a\x00@x",
	} {
		refused(t, s, api.ErrForm)
	}
	// Between the signs of a path these would be paths.
	for _, s := range []string{"", "a@x>", "@r:a@x"} {
		if a, e := Parse(s); a != (api.Addr{}) || e != api.ErrForm {
			t.Errorf("Parse(%q): %q %d", s, a, e)
		}
	}
}

// P5.2: each byte as a local part, between quotes, and behind 5c there.
func TestParseEachByte(t *testing.T) {
	for v := range 256 {
		b := one(v)
		told, plain := v >= 0x20 && v <= 0x7e, b != "\"" && b != "\\"
		for s, want := range map[string]bool{b + "@x": strings.Contains(atomBytes, b), "\"" + b + "\"@x": told && plain, "\"\\" + b + "\"@x": told} {
			a, e := Parse(s)
			if want && (a != api.Addr{Local: b, Domain: "x"} || e != api.OK) || !want && (a != api.Addr{} || e != api.ErrForm) {
				t.Errorf("Parse(%q): %q %d", s, a, e)
			}
		}
	}
}

// P5.2: what is a mailbox but for its lengths, by what it tells and not by what is written.
func TestParseLarge(t *testing.T) {
	for _, s := range []string{
		many("a", 65) + "@x", "a@" + many("x", 65), many("a", 65) + "@" + many("x", 65), many("a.", 32) + "a@x", "a@" + many("x.", 32) + "x", "\"" + many(" ", 65) + "\"@x", "\"" + many("\\\"", 65) + "\"@x", many("a", 70000) + "@x", "a@" + many("x", 70000),
	} {
		refused(t, s, api.ErrLarge)
	}
}

// P5.2: ErrLarge is never ahead of ErrForm.
func TestParseLargeAndForm(t *testing.T) {
	long := many("a", 65)
	for _, s := range []string{
		long, long + "@", "@" + long, long + "@-", long + "@x.", long + "@x ", "a..b@" + long, "\"\"@" + long, "a@" + long + "-", "a@" + long + ".", "a@" + long + " ", "a@-" + long, long + ".@x", "\"" + long + "@x", "\"" + long + "\n\"@x", "\"" + long + "\"", "a@" + long + "@x",
	} {
		refused(t, s, api.ErrForm)
	}
}

// P5.2: paths, what they tell, and how many bytes they have, whatever is behind.
func TestRead(t *testing.T) {
	a, long := api.Addr{Local: "a", Domain: "x"}, many("r", 64)
	for s, want := range map[string]api.Addr{
		"<a@x>": a, "<@r.net:a@x>": a, "<@r,@s:a@x>": a, "<@r,@s.t-u,@1:a@x>": a, "<\"a\"@x>": a, "<@r:\"a>:\"@x>": {Local: "a>:", Domain: "x"}, "<@" + long + ":a@x>": a, "<@" + many("r,@", 2000) + "s:a@x>": a,
	} {
		for _, behind := range []string{"", " ", ">", "<", "<a@x>", ":", "\x00", "@y", ".y"} {
			for _, null := range []bool{false, true} {
				if b, n, e := Read(s+behind, null); b != want || n != len(s) || e != api.OK {
					t.Errorf("Read(%.99q, %v): %q %d %d", s+behind, null, b, n, e)
				}
			}
		}
	}
	if _, n, _ := Read("<@r.net:a@x>", false); n != 12 {
		t.Errorf("%d bytes", n)
	}
}

// P5.2: the null path stands only where it may.
func TestReadNull(t *testing.T) {
	for _, s := range []string{"<>", "<> SIZE=1", "<>>", "<><a@x>"} {
		if a, n, e := Read(s, true); a != (api.Addr{}) || n != 2 || e != api.OK {
			t.Errorf("Read(%q, true): %q %d %d", s, a, n, e)
		}
		if a, n, e := Read(s, false); a != (api.Addr{}) || n != 0 || e != api.ErrForm {
			t.Errorf("Read(%q, false): %q %d %d", s, a, n, e)
		}
	}
}

// P5.2: what doesn't begin with a path, be it but for its lengths or not.
func TestReadRefuses(t *testing.T) {
	long := many("r", 65)
	for want, l := range map[api.Errno][]string{
		api.ErrForm: {
			"", "<", ">", "<<a@x>>", " <a@x>", "a@x", "a@x>", "<a@x", "<a@x >", "< a@x>", "< >", "<a>", "<@x>", "<a@>", "<@>", "<:>", "<@:a@x>", "<:a@x>", "<r:a@x>", "<@r:>", "<@r:@x>", "<@r a@x>", "<@ra@x>", "<@r,:a@x>", "<@r,s:a@x>", "<@r,a@x>", "<@r@s:a@x>", "<@r:@s:a@x>", "<,@r:a@x>", "<@r,,@s:a@x>", "<@r;@s:a@x>", "<@-r:a@x>", "<@r.:a@x>", "<@r, @s:a@x>", "<@r: a@x>", "<@r:<a@x>>", "<@r:a@x", "<@r", "<@r:", "<@r,", "<@", "<@r>", "<@r:a@x:>", "<\"a@x>",
			"<@" + long + ":a@x", "<@" + long + ":>", "<@" + long + ">", "<@" + long + ",:a@x>", "<@" + long + "-:a@x>", "<@r,@" + long + ":a..b@x>", "<@-:" + long + "@x>", "<" + long + "@x", "<a@" + long,
		},
		api.ErrLarge: {"<@" + long + ":a@x>", "<@r,@" + long + ":a@x>", "<@" + long + ",@r:a@x> b", "<@" + long + ":" + long + "@x>", "<@r:a@" + long + ">", "<" + long + "@x>>"},
	} {
		for _, s := range l {
			for _, null := range []bool{false, true} {
				if a, n, e := Read(s, null); a != (api.Addr{}) || n != 0 || e != want {
					t.Errorf("Read(%.99q, %v): %q %d %d, not %d", s, null, a, n, e, want)
				}
			}
		}
	}
}

// P5.4: what is written is read as it was.
func TestWrittenIsRead(t *testing.T) {
	r := rand.New(rand.NewSource(5))
	draw := func(from string, most int) string {
		b := make([]byte, 1+r.Intn(most))
		for i := range b {
			b[i] = from[r.Intn(len(from))]
		}
		return string(b)
	}
	printed := ""
	for v := 0x20; v <= 0x7e; v++ {
		printed += one(v)
	}
	for i := range 20000 {
		a := api.Addr{Local: draw([]string{printed, atomBytes, "a.", "\"\\a"}[i%4], 64), Domain: draw(labelBytes, 30) + "." + draw(labelBytes, 30)}
		s, e := Text(a)
		if b, f := Parse(s); b != a || e != api.OK || f != api.OK {
			t.Fatalf("%q: Text %q %d, Parse %q %d", a, s, e, b, f)
		}
		s, e = Path(a)
		if b, n, f := Read(s+" "+s, i%2 == 0); b != a || n != len(s) || e != api.OK || f != api.OK {
			t.Fatalf("%q: Path %q %d, Read %q %d %d", a, s, e, b, n, f)
		}
	}
	s, _ := Path(api.Addr{})
	if a, n, e := Read(s, true); a != (api.Addr{}) || n != 2 || e != api.OK {
		t.Errorf("the null path: %q %d %d", a, n, e)
	}
}

// The form by the chapter's words.
const (
	plainAtom   = "[A-Za-z0-9!#$%&'*+\\-/=?^_`{|}~]+"
	plainThing  = "(?:[ !#-\\[\\]-~]|\\\\[ -~])"
	plainLocal  = "(" + plainAtom + "(?:\\." + plainAtom + ")*|\"" + plainThing + "+\")"
	plainLabel  = "[A-Za-z0-9](?:[A-Za-z0-9-]*[A-Za-z0-9])?"
	plainDomain = "(" + plainLabel + "(?:\\." + plainLabel + ")*)"
	plainRoute  = "((?:@" + plainDomain + "(?:,@" + plainDomain + ")*:)?)"
)

// plainTold is what a local part tells.
func plainTold(s string) string {
	if s[0] != '"' {
		return s
	}
	return regexp.MustCompile(`\\(.)`).ReplaceAllString(s[1:len(s)-1], "$1")
}

// each calls with all texts of up to n of these bytes.
func each(from string, n int, call func(s string)) {
	var further func(s string)
	further = func(s string) {
		call(s)
		for i := 0; i < len(from) && len(s) < n; i++ {
			further(s + from[i:i+1])
		}
	}
	further("")
}

// P5.1, P5.2: all short texts are what the chapter's words make of them.
func TestAllShort(t *testing.T) {
	mailbox := regexp.MustCompile("^" + plainLocal + "@" + plainDomain + "$")
	domain := regexp.MustCompile("^" + plainDomain + "$")
	each("a.@\"\\- ", 6, func(s string) {
		want, wrong := api.Addr{}, api.ErrForm
		if m := mailbox.FindStringSubmatch(s); m != nil {
			want, wrong = api.Addr{Local: plainTold(m[1]), Domain: m[2]}, api.OK
		}
		if a, e := Parse(s); a != want || e != wrong {
			t.Fatalf("Parse(%q): %q %d", s, a, e)
		}
		if Domain(s) != domain.MatchString(s) {
			t.Fatalf("Domain(%q): %v", s, Domain(s))
		}
	})
	path := regexp.MustCompile("^<" + plainRoute + plainLocal + "@" + plainDomain + ">")
	each("a@:,>\"", 7, func(s string) {
		s = "<" + s
		want, length, wrong := api.Addr{}, 0, api.ErrForm
		if m := path.FindStringSubmatch(s); m != nil {
			want, length, wrong = api.Addr{Local: plainTold(m[4]), Domain: m[5]}, len(m[0]), api.OK
		}
		if a, n, e := Read(s, false); a != want || n != length || e != wrong {
			t.Fatalf("Read(%q): %q %d %d", s, a, n, e)
		}
		if s[1:] == "" || s[1] != '>' {
			if a, n, e := Read(s, true); a != want || n != length || e != wrong {
				t.Fatalf("Read(%q, true): %q %d %d", s, a, n, e)
			}
		}
	})
}
