package addr

import (
	"strings"
	"testing"

	"pigeonhole/api"
)

// atomBytes are the bytes of an atom.
const atomBytes = "ABCDEFGHIJKLMNOPQRSTUVWXYZabcdefghijklmnopqrstuvwxyz0123456789!#$%&'*+-/=?^_`{|}~"

// labelBytes are the bytes of a label, but "-".
const labelBytes = "ABCDEFGHIJKLMNOPQRSTUVWXYZabcdefghijklmnopqrstuvwxyz0123456789"

// many is a text so often in a row.
func many(s string, n int) string {
	return strings.Repeat(s, n)
}

// one is the text of one byte, even if that is no rune.
func one(v int) string {
	return string([]byte{byte(v)})
}

// domains are texts, and whether each is a domain.
func domains() map[string]bool {
	return map[string]bool{
		"x": true, "x.org": true, "X.ORG": true, "1": true, "1.2.3.4": true, "a-b": true, "a--b.c-d": true, "a.b.c.d.e": true,
		"": false, ".": false, "-": false, "x.": false, ".x": false, "x..y": false, "-x": false, "x-": false, "x.-y": false, "x-.y": false, "x.-": false, "-.x": false, "--": false,
		"x y": false, "x ": false, " x": false, "x@y": false, "@": false, "x_y": false, "[1.2.3.4]": false, "x\x00": false, "x\n": false, "\u00e9": false, "x:": false, "x,y": false, "x>": false,
		many("a", 64): true, many("a", 65): false, many("a.", 31) + "aa": true, many("a.", 32): false, many("a.", 32) + "a": false, many("a", 63) + "-": false, many("a", 62) + ".b": true, many("a", 63) + ".b": false, many("a", 70000): false,
	}
}

// P5.1: domains, and what is none; the longest, and one byte more.
func TestDomain(t *testing.T) {
	for s, want := range domains() {
		if Domain(s) != want {
			t.Errorf("Domain(%q): %v", s, !want)
		}
	}
}

// P5.1: each byte alone, within and at both ends of a label.
func TestDomainEachByte(t *testing.T) {
	for v := range 256 {
		b := one(v)
		is := strings.Contains(labelBytes, b)
		for s, want := range map[string]bool{b: is, "x" + b: is, b + "x": is, "x" + b + "x": is || b == "-" || b == ".", "x." + b: is, b + ".x": is} {
			if Domain(s) != want {
				t.Errorf("Domain(%q): %v", s, !want)
			}
		}
	}
}

// P5.1: a good mailbox has a local part of 1 to 64 bytes that may be told, and a domain.
func TestGood(t *testing.T) {
	for v := range 256 {
		for _, local := range []string{one(v), "a" + one(v), one(v) + "a", many("a", 63) + one(v)} {
			if want := v >= 0x20 && v <= 0x7e; Good(api.Addr{Local: local, Domain: "x"}) != want {
				t.Errorf("Good(%q): %v", local, !want)
			}
		}
	}
	for local, want := range map[string]bool{"": false, "a": true, many("a", 64): true, many("a", 65): false, many("\"", 64): true, many(" ", 65): false, many("a", 70000): false, "..": true, "a@b": true, "\u00e9": false} {
		if Good(api.Addr{Local: local, Domain: "x"}) != want {
			t.Errorf("Good(%q): %v", local, !want)
		}
	}
	for s, want := range domains() {
		if Good(api.Addr{Local: "a b", Domain: s}) != want {
			t.Errorf("Good at %q: %v", s, !want)
		}
		if Good(api.Addr{Local: "", Domain: s}) {
			t.Errorf("Good without a local part at %q", s)
		}
	}
}

// bad are mailboxes that aren't good.
func bad() []api.Addr {
	return []api.Addr{
		{Local: "a"}, {Domain: "x"}, {Local: "a", Domain: "-"}, {Local: "a", Domain: "x."}, {Local: "a\n", Domain: "x"}, {Local: "\x7f", Domain: "x"}, {Local: "\u00e9", Domain: "x"},
		{Local: many("a", 65), Domain: "x"}, {Local: "a", Domain: many("x", 65)}, {Local: "a", Domain: "x y"}, {Local: "\xff", Domain: "\xff"},
	}
}

// P5.1: local parts that are atoms stand as they are, all others between quotes; Path lays its signs about it.
func TestText(t *testing.T) {
	for local, want := range map[string]string{
		"a": "a", "a.b": "a.b", "A.b.C": "A.b.C", "!#$%&'*+-/=?^_`{|}~": "!#$%&'*+-/=?^_`{|}~", "-": "-", "1": "1",
		"a b": "\"a b\"", " ": "\" \"", ".": "\".\"", "a.": "\"a.\"", ".a": "\".a\"", "a..b": "\"a..b\"", "a@b": "\"a@b\"", "<a>": "\"<a>\"", "(": "\"(\"", ",:;[]()": "\",:;[]()\"",
		"\"": "\"\\\"\"", "\\": "\"\\\\\"", "a\"b\\c": "\"a\\\"b\\\\c\"", "\"a\"": "\"\\\"a\\\"\"", "\\\"": "\"\\\\\\\"\"",
		many("a", 64): many("a", 64), many("\"", 64): "\"" + many("\\\"", 64) + "\"", many("a.", 32): "\"" + many("a.", 32) + "\"",
	} {
		a := api.Addr{Local: local, Domain: "x.Org"}
		if s, e := Text(a); s != want+"@x.Org" || e != api.OK {
			t.Errorf("Text of %q: %q %d", local, s, e)
		}
		if s, e := Path(a); s != "<"+want+"@x.Org>" || e != api.OK {
			t.Errorf("Path of %q: %q %d", local, s, e)
		}
	}
}

// P5.1: each byte that may be told: atoms' bytes as they are, others between quotes, two of them behind 5c.
func TestTextEachByte(t *testing.T) {
	for v := 0x20; v <= 0x7e; v++ {
		b := one(v)
		want := "\"" + b + "\"@x"
		switch {
		case strings.Contains(atomBytes, b):
			want = b + "@x"
		case b == "\"" || b == "\\":
			want = "\"\\" + b + "\"@x"
		}
		if s, e := Text(api.Addr{Local: b, Domain: "x"}); s != want || e != api.OK {
			t.Errorf("Text of %q: %q %d", b, s, e)
		}
	}
}

// P5.1: Text and Path refuse what isn't good; the mailbox without both parts has a path, but no text.
func TestTextRefuses(t *testing.T) {
	for _, a := range bad() {
		if s, e := Text(a); s != "" || e != api.ErrForm {
			t.Errorf("Text(%q): %q %d", a, s, e)
		}
		if s, e := Path(a); s != "" || e != api.ErrForm {
			t.Errorf("Path(%q): %q %d", a, s, e)
		}
	}
	if s, e := Text(api.Addr{}); s != "" || e != api.ErrForm {
		t.Errorf("Text of none: %q %d", s, e)
	}
	if s, e := Path(api.Addr{}); s != "<>" || e != api.OK {
		t.Errorf("Path of none: %q %d", s, e)
	}
}

// P5.3: the key has small letters, and no quotes; what isn't good has none.
func TestKey(t *testing.T) {
	for a, want := range map[api.Addr]string{
		{Local: "a", Domain: "x"}:               "a@x",
		{Local: "A.b", Domain: "X.Org"}:         "a.b@x.org",
		{Local: "A B\"\\", Domain: "X-1"}:       "a b\"\\@x-1",
		{Local: "A@[Z]^_`{", Domain: "AZ.az09"}: "a@[z]^_`{@az.az09",
		{Local: "@", Domain: "x"}:               "@@x",
	} {
		if k := Key(a); k != want {
			t.Errorf("Key(%q): %q", a, k)
		}
	}
	for _, a := range append(bad(), api.Addr{}) {
		if k := Key(a); k != "" {
			t.Errorf("Key(%q): %q", a, k)
		}
	}
}

// P5.3: just A to Z have small letters.
func TestKeyEachByte(t *testing.T) {
	for v := 0x20; v <= 0x7e; v++ {
		small := v
		if v >= 'A' && v <= 'Z' {
			small += 32
		}
		if k := Key(api.Addr{Local: one(v), Domain: "x"}); k != one(small)+"@x" {
			t.Errorf("Key of %q: %q", one(v), k)
		}
	}
}

// P5.3: Same is one key of two good ones, or none and none.
func TestSame(t *testing.T) {
	good := []api.Addr{{Local: "a", Domain: "x"}, {Local: "A", Domain: "x"}, {Local: "a", Domain: "X"}, {Local: "b", Domain: "x"}, {Local: "a", Domain: "y"}, {Local: "k", Domain: "x"}, {Local: "a@x", Domain: "x"}, {Local: "a.", Domain: "x"}, {Local: "[", Domain: "x"}, {Local: "{", Domain: "x"}, {Local: "a", Domain: "x.x"}}
	// The last ones would be as others are, if runes' letters were made small.
	wrong := append(bad(), api.Addr{Local: "\u212a", Domain: "x"}, api.Addr{Local: "a", Domain: "\u212a"})
	for _, a := range good {
		for _, b := range good {
			if want := strings.ToLower(a.Local) == strings.ToLower(b.Local) && strings.ToLower(a.Domain) == strings.ToLower(b.Domain); Same(a, b) != want || want != (Key(a) == Key(b)) {
				t.Errorf("Same(%q, %q): %v", a, b, !want)
			}
		}
		for _, b := range append(wrong, api.Addr{}) {
			if Same(a, b) || Same(b, a) {
				t.Errorf("Same(%q, %q)", a, b)
			}
		}
	}
	for _, a := range wrong {
		for _, b := range append(wrong, api.Addr{}) {
			if Same(a, b) || Same(b, a) {
				t.Errorf("Same(%q, %q)", a, b)
			}
		}
	}
	if !Same(api.Addr{}, api.Addr{}) {
		t.Error("none and none")
	}
}
