package head

import (
	"bytes"
	"math/rand"
	"slices"
	"strings"
	"testing"

	"pigeonhole/api"
)

// each calls a function with all texts of so many pieces at most.
func each(pieces []string, most int, see func(s string)) {
	see("")
	if most == 0 {
		return
	}
	for _, p := range pieces {
		each(pieces, most-1, func(s string) { see(p + s) })
	}
}

// plainSplit is a message's fields, its head's lines and its body, by the chapter's words.
func plainSplit(s string) (l []api.Field, lines, body string, ok bool) {
	if s == "" {
		return nil, "", "", true
	}
	for left := s; ; {
		line, rest, ended := strings.Cut(left, "\r\n")
		if !ended {
			return nil, "", "", false
		}
		if line == "" {
			l, ok = plainValues(l)
			if !ok {
				return nil, "", "", false
			}
			return l, s[:len(s)-len(left)], rest, true
		}
		name, text, is := strings.Cut(line, ":")
		switch {
		case (line[0] == ' ' || line[0] == '\t') && len(l) > 0:
			l[len(l)-1].Value += line
		case is && plainName(name):
			l = append(l, api.Field{Name: name, Value: text})
		default:
			return nil, "", "", false
		}
		left = rest
	}
}

// plainValues are fields with the values that their texts tell, by the chapter's words, and whether all bytes are right.
func plainValues(l []api.Field) ([]api.Field, bool) {
	for i := range l {
		l[i].Value = strings.TrimLeft(l[i].Value, "\x20\x09")
		for _, v := range []byte(l[i].Value) {
			if v != 0x09 && (v < 0x20 || v > 0x7e) {
				return nil, false
			}
		}
	}
	return l, true
}

// asTold fails, unless a message is split as the chapter's words tell.
func asTold(t *testing.T, s string) {
	t.Helper()
	want, lines, rest, is := plainSplit(s)
	in := []byte(s)
	l, body, ok := Split(in)
	if !slices.Equal(l, want) || string(body) != rest || ok != is {
		t.Fatalf("Split(%.99q): %.99q %.99q %v, not %.99q %.99q %v", s, l, body, ok, want, rest, is)
	}
	if b := Lines(in); string(b) != lines {
		t.Fatalf("Lines(%.99q): %.99q, not %.99q", s, b, lines)
	}
	if string(in) != s {
		t.Fatalf("%.99q: left %.99q", s, in)
	}
}

// split fails, unless a message has those fields, these lines and that body.
func split(t *testing.T, s string, want []api.Field, lines, rest string) {
	t.Helper()
	l, body, ok := Split([]byte(s))
	if !slices.Equal(l, want) || string(body) != rest || !ok {
		t.Errorf("Split(%.99q): %.99q %.99q %v", s, l, body, ok)
	}
	if b := Lines([]byte(s)); string(b) != lines {
		t.Errorf("Lines(%.99q): %.99q", s, b)
	}
	asTold(t, s)
}

// P10.2, P10.3: messages that have a head, those of the examples among them.
func TestSplit(t *testing.T) {
	split(t, "", nil, "", "")
	split(t, "\r\n", nil, "", "")
	split(t, "\r\nhi", nil, "", "hi")
	split(t, "\r\n\r\n", nil, "", "\r\n")
	split(t, "\r\na: b\r\n\r\n", nil, "", "a: b\r\n\r\n")
	split(t, "To: a\r\n b\r\n\r\nhi", of("To", "a b"), "To: a\r\n b\r\n", "hi")
	split(t, "A:b\r\n\r\n", of("A", "b"), "A:b\r\n", "")
	split(t, "A:\r\n\r\n", of("A", ""), "A:\r\n", "")
	split(t, "A: \t \r\n\r\n", of("A", ""), "A: \t \r\n", "")
	split(t, "A: \r\n\t\r\n \r\n\r\n\r\n", of("A", ""), "A: \r\n\t\r\n \r\n", "\r\n")
	split(t, "A:\r\n \r\n\t b \t\r\n\r\n", of("A", "b \t"), "A:\r\n \r\n\t b \t\r\n", "")
	split(t, "A: b\r\n  \r\n c\r\n\r\n", of("A", "b   c"), "A: b\r\n  \r\n c\r\n", "")
	split(t, "A: b\r\n\tc\r\nB: d: e\r\na:f\r\n\r\n", of("A", "b\tc", "B", "d: e", "a", "f"), "A: b\r\n\tc\r\nB: d: e\r\na:f\r\n", "")
	split(t, "A: b\r\n C: d\r\n\r\n", of("A", "b C: d"), "A: b\r\n C: d\r\n", "")
	split(t, "A::\r\n\r\n", of("A", ":"), "A::\r\n", "")
	split(t, "A: b\r\n\r\n c\r\n\r\n\x00\xff\r\n\n", of("A", "b"), "A: b\r\n", " c\r\n\r\n\x00\xff\r\n\n")
}

// P10.2: values and names that are longer than good ones, and many of them.
func TestSplitLong(t *testing.T) {
	long := many("v w", 100000)
	split(t, "A: "+long+"\r\n\r\n", of("A", long), "A: "+long+"\r\n", "")
	split(t, many("N", 2000)+":\r\n\r\nx", of(many("N", 2000), ""), many("N", 2000)+":\r\n", "x")
	lines := "A: b" + many("\r\n c", 50000) + "\r\n"
	split(t, lines+"\r\n", of("A", "b"+many(" c", 50000)), lines, "")
	lines = many("A: b\r\nC:\r\n", 50000)
	split(t, lines+"\r\n", slices.Repeat(of("A", "b", "C", ""), 50000), lines, "")
	split(t, "A: b\r\n\r\n"+many("x", 1<<20), of("A", "b"), "A: b\r\n", many("x", 1<<20))
}

// P10.2, P10.3: messages that have none, or a value with another byte.
func TestSplitNone(t *testing.T) {
	for _, s := range []string{
		"x", "\r", "\n", "\n\n", "\r\r\n", "\n\r\n", "\rx", " ", ":", "x\r\n\r\n", "x\r\n", "A", "A:", "A: b", "A: b\r", "A: b\n\n", "A: b\r\n", "A: b\r\n\r", "A: b\r\n\n", "A: b\n\r\n\r\n", "A: b\r\r\n\r\n", "A: b\rc\r\n\r\n", "A: b\nc\r\n\r\n", "A:\r\r\n\r\n", "A:\n\r\n\r\n",
		":b\r\n\r\n", ": b\r\n\r\n", " \r\n\r\n", "\t\r\n\r\n", " A: b\r\n\r\n", "\tA: b\r\n\r\n", "A : b\r\n\r\n", "A\t: b\r\n\r\n", "A b: c\r\n\r\n", "A\r\n : b\r\n\r\n", "A\x00: b\r\n\r\n", "\u00e9: b\r\n\r\n", "\xff: b\r\n\r\n",
		"A: b\r\nc\r\n\r\n", "A: b\r\n:c\r\n\r\n", "A: b\r\nC : d\r\n\r\n", "A: b\r\n c", "A: b\r\n c\r\n", "A: b\r\n ", "A: b\r\n \r\n", "A: b\r\nC: d", "A: b\r\nC: d\r\n", "A: b\r\nC\r\n\r\n",
		"A: \x00\r\n\r\n", "A: \x7f\r\n\r\n", "A: \x80\r\n\r\n", "A: \xff\r\n\r\n", "A: \u00e9\r\n\r\n", "A: b\r\n \x01\r\n\r\n", "A: b\r\n\t\x0b\r\n\r\n", "A: b\r\nC: \x1f\r\n\r\nhi", "A:\x00 b\r\n\r\n", "A: \x00 b\r\n\r\n",
	} {
		if l, body, ok := Split([]byte(s)); l != nil || body != nil || ok {
			t.Errorf("Split(%q): %q %q %v", s, l, body, ok)
		}
		if b := Lines([]byte(s)); b != nil {
			t.Errorf("Lines(%q): %q", s, b)
		}
		asTold(t, s)
	}
}

// P10.2, P10.3: a message that ends early, lacks a byte, or has any byte in the place of one, or between two.
func TestSplitEachByte(t *testing.T) {
	const s = "To: a\r\n b\r\nX:\r\n\t\r\nY: :\r\n\r\nh:i\r\n\r\n"
	for i := range len(s) + 1 {
		asTold(t, s[:i])
		asTold(t, s[i:])
		for v := range 256 {
			asTold(t, s[:i]+one(v)+s[i:])
			if i < len(s) {
				asTold(t, s[:i]+one(v)+s[i+1:])
			}
		}
		if i < len(s) {
			asTold(t, s[:i]+s[i+1:])
		}
	}
}

// P10.2, P10.3: all messages of few pieces are what the chapter's words make of them.
func TestSplitAllShort(t *testing.T) {
	each([]string{"a", ":", " ", "\t", "\r", "\n", "\r\n", "\x80"}, 6, func(s string) { asTold(t, s) })
	each([]string{"A: b\r\n", "C:", "\r\n", " ", " d\r\n", "\t\r\n", "e"}, 6, func(s string) { asTold(t, s) })
}

// P10.2, P10.3: so are drawn ones.
func TestSplitDrawn(t *testing.T) {
	r := rand.New(rand.NewSource(10))
	l := []string{"A: b\r\n", "To:c\r\n", " d\r\n", "\t\r\n", "E:\r\n", "\r\n", "f", ":", " ", "\r", "\n", "\x00", "\xff", many("g", 1000)}
	for range 100000 {
		s := ""
		for range r.Intn(8) {
			s += l[min(r.Intn(len(l)), r.Intn(len(l)))]
		}
		asTold(t, s)
		asTold(t, s+"\r\n")
	}
}

// P10.4: what is handed in stays, and what lies behind its length is neither read nor written.
func TestSplitHandedInStays(t *testing.T) {
	whole := []byte("To: a\r\n b\r\nX:\r\n\t\r\n\r\nhi\r\n\r\nmore")
	was := string(whole)
	for n := range len(whole) + 1 {
		want, lines, rest, is := plainSplit(was[:n])
		l, body, ok := Split(whole[:n])
		if !slices.Equal(l, want) || string(body) != rest || ok != is {
			t.Errorf("%d bytes: %q %q %v", n, l, body, ok)
		}
		if b := Lines(whole[:n]); string(b) != lines {
			t.Errorf("%d bytes: %q", n, b)
		}
		if string(whole) != was {
			t.Fatalf("%d bytes: changed to %q", n, whole)
		}
	}
}

// P10.4: what is read is new memory: it stays when the bytes or another answer are written over.
func TestSplitIsNew(t *testing.T) {
	in := []byte("A: b\r\nC: d\r\n e\r\n\r\nhi")
	l, body, _ := Split(in)
	k, other, _ := Split(in)
	lines, again := Lines(in), Lines(in)
	clear(k)
	clear(other)
	clear(again)
	_ = append(other, "more"...)
	_ = append(again, "more"...)
	_ = append(k, api.Field{})
	if string(in) != "A: b\r\nC: d\r\n e\r\n\r\nhi" {
		t.Errorf("left %q", in)
	}
	clear(in)
	if !slices.Equal(l, of("A", "b", "C", "d e")) || string(body) != "hi" || string(lines) != "A: b\r\nC: d\r\n e\r\n" {
		t.Errorf("%q %q %q", l, body, lines)
	}
	in = []byte("\r\nhi")
	_, body, _ = Split(in)
	copy(in, "xxxx")
	if !bytes.Equal(body, []byte("hi")) {
		t.Errorf("%q", body)
	}
}
