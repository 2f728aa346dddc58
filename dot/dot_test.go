package dot

import (
	"bytes"
	"slices"
	"strings"
	"testing"
)

// many is a text so often in a row.
func many(s string, n int) string {
	return strings.Repeat(s, n)
}

// each calls with all texts of up to n of these pieces.
func each(pieces []string, n int, call func(s string)) {
	call("")
	if n == 0 {
		return
	}
	for _, p := range pieces {
		each(pieces, n-1, func(s string) { call(p + s) })
	}
}

// signs are the bytes that lines are told by, and another one.
func signs() []string {
	return []string{".", "\r", "\n", "a"}
}

// P7.1: points at the beginnings of lines are doubled, no others; behind the message a line's end only where none is.
func TestSend(t *testing.T) {
	for msg, want := range map[string]string{
		"":                     ".\r\n",
		"a":                    "a\r\n.\r\n",
		"a\r\n":                "a\r\n.\r\n",
		"a\r\n.b":              "a\r\n..b\r\n.\r\n",
		"\r\n":                 "\r\n.\r\n",
		"\r\n\r\n":             "\r\n\r\n.\r\n",
		".":                    "..\r\n.\r\n",
		".\r\n":                "..\r\n.\r\n",
		"..":                   "...\r\n.\r\n",
		"...\r\n..\r\n.\r\n":   "....\r\n...\r\n..\r\n.\r\n",
		"a.b\r\nc.\r\n":        "a.b\r\nc.\r\n.\r\n",
		"a\r\n\r\n.\r\n\r\n.b": "a\r\n\r\n..\r\n\r\n..b\r\n.\r\n",
		"a\r":                  "a\r\r\n.\r\n",
		"a\n":                  "a\n\r\n.\r\n",
		"a\n\r":                "a\n\r\r\n.\r\n",
		"\n.\r.":               "\n.\r.\r\n.\r\n",
		"\r\r\n.":              "\r\r\n..\r\n.\r\n",
		".\r\n.\r":             "..\r\n..\r\r\n.\r\n",
		"\x00\xff\r\n.\xc3":    "\x00\xff\r\n..\xc3\r\n.\r\n",
		many("a", 70000):       many("a", 70000) + "\r\n.\r\n",
		many(".\r\n", 20000):   many("..\r\n", 20000) + ".\r\n",
	} {
		if b := Send([]byte(msg)); string(b) != want {
			t.Errorf("Send(%.99q): %.99q, not %.99q", msg, b, want)
		}
	}
	if b := Send(nil); string(b) != ".\r\n" {
		t.Errorf("Send(nil): %q", b)
	}
}

// plainSend is a message as it is sent, by the chapter's words.
func plainSend(msg string) string {
	s := strings.ReplaceAll("\r\n"+msg, "\r\n.", "\r\n..")[2:]
	if msg != "" && !strings.HasSuffix(msg, "\r\n") {
		s += "\r\n"
	}
	return s + ".\r\n"
}

// P7.1, P7.4: all messages of few bytes are sent as the chapter's words tell, and have so many line ends.
func TestSendAllShort(t *testing.T) {
	each(signs(), 8, func(s string) {
		if b := Send([]byte(s)); string(b) != plainSend(s) {
			t.Fatalf("Send(%q): %q, not %q", s, b, plainSend(s))
		}
		if n := Lines([]byte(s)); n != len(strings.Split(s, "\r\n"))-1 {
			t.Fatalf("Lines(%q): %d", s, n)
		}
	})
}

// P7.4: CR and LF count together alone.
func TestLines(t *testing.T) {
	for msg, want := range map[string]int{
		"": 0, "a": 0, "\r": 0, "\n": 0, "\n\r": 0, "\r\n": 1, "a\r\n": 1, "a\r\nb": 1, "\r\r\n": 1, "\r\n\n": 1, "\r\n\r": 1, "\r\n\r\n": 2, "\r\n\r\r\n": 2, "\n\r\n\r": 1, ".\r\n": 1, "\r.\n": 0,
		many("a\r\n", 30000): 30000, many("\r", 30000) + many("\n", 30000): 1,
	} {
		if n := Lines([]byte(msg)); n != want {
			t.Errorf("Lines(%.99q): %d, not %d", msg, n, want)
		}
	}
	if n := Lines(nil); n != 0 {
		t.Errorf("Lines(nil): %d", n)
	}
}

// P7.4: what is handed in stays, and what lies behind its length is neither read nor written.
func TestSendHandedInStays(t *testing.T) {
	whole := []byte(".a\r\n.b\r\n.c\r\n.d\r\n")
	was := bytes.Clone(whole)
	for n := range whole {
		sent, lines := Send(whole[:n]), Lines(whole[:n])
		if want := plainSend(string(was[:n])); string(sent) != want || lines != strings.Count(string(was[:n]), "\r\n") {
			t.Errorf("%d bytes: %q %d", n, sent, lines)
		}
		clear(sent)
		_ = append(sent, many("x", 100)...)
		if !bytes.Equal(whole, was) {
			t.Fatalf("%d bytes: changed to %q", n, whole)
		}
	}
}

// P7.4: what is sent is new memory: it stays when the message or another answer is written over.
func TestSendIsNew(t *testing.T) {
	for _, msg := range []string{"", "a", "a\r\n", ".a\r\n.b", "\r\n"} {
		in := []byte(msg)
		a, b := Send(in), Send(in)
		clear(in)
		for i := range b {
			b[i] = 'x'
		}
		_ = append(b[:0], many("y", 100)...)
		if string(a) != plainSend(msg) || string(Send([]byte(msg))) != plainSend(msg) {
			t.Errorf("Send(%q): %q", msg, a)
		}
		if slices.Contains(a, 'x') {
			t.Errorf("Send(%q) was written over", msg)
		}
	}
}
