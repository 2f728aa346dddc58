package dot

import (
	"bytes"
	"math"
	"math/rand"
	"strings"
	"testing"

	"pigeonhole/api"
)

// came is what is told of bytes that came.
type came struct {
	text              string
	long, bare, large bool
	used              int
	done              bool
}

// of is what a decoder's answers tell.
func of(x api.Text, used int, done bool) came {
	return came{string(x.Bytes), x.Long, x.Bare, x.Large, used, done}
}

// decoded is what Decode tells.
func decoded(s string, most int) came {
	return of(Decode([]byte(s), most))
}

// pieces is what one decoder tells of texts that come one behind the other.
func pieces(most int, l ...string) came {
	d := NewDecoder(most)
	used := 0
	for _, s := range l {
		n, _ := d.Feed([]byte(s))
		used += n
	}
	return of(d.Text(), used, d.Done())
}

// is fails, unless what came of s is that.
func is(t *testing.T, s string, most int, got, want came) {
	t.Helper()
	if got != want {
		got.text, want.text = brief(got.text), brief(want.text)
		t.Fatalf("%q up to %d: %+v, not %+v", brief(s), most, got, want)
	}
}

// brief is a text, or its ends.
func brief(s string) string {
	if len(s) > 60 {
		return s[:30] + " .. " + s[len(s)-30:]
	}
	return s
}

// plainLine puts a line without its end behind what came, by the chapter's words; end is the line's end, if it came.
func plainLine(c *came, line, end string) {
	line = strings.TrimPrefix(line, ".")
	c.text += line + end
	c.long = c.long || len(line+end) > 1000
	// Of a CR that was the last to come nothing is known yet.
	if end == "" {
		line = strings.TrimSuffix(line, "\r")
	}
	c.bare = c.bare || strings.ContainsAny(line, "\r\n")
}

// plainDecode is what came, by the chapter's words.
func plainDecode(s string, most int) came {
	c := came{used: len(s)}
	for left := s; left != "" && !c.done; {
		line, behind, ended := strings.Cut(left, "\r\n")
		switch {
		case ended && line == ".":
			c.done, c.used = true, len(s)-len(behind)
		case ended:
			plainLine(&c, line, "\r\n")
		case line != "." && line != ".\r":
			plainLine(&c, line, "")
		}
		left = behind
	}
	if most = max(most, 0); len(c.text) > most {
		c.text, c.large = c.text[:most], true
	}
	return c
}

// P7.3: messages that come to their end, and what comes behind that.
func TestDecodeEnds(t *testing.T) {
	for s, want := range map[string]came{
		".\r\n":                      {used: 3},
		"..a\r\n.\r\nQUIT":           {text: ".a\r\n", used: 8},
		".\r\n.\r\n":                 {used: 3},
		"\r\n.\r\n":                  {text: "\r\n", used: 5},
		"a\r\n.\r\n\r\n":             {text: "a\r\n", used: 6},
		"..\r\n.\r\n":                {text: ".\r\n", used: 7},
		"...\r\n..\r\n.\r\n.\r\n":    {text: "..\r\n.\r\n", used: 12},
		".a\r\n.\r\n":                {text: "a\r\n", used: 7},
		". \r\n.\r\n":                {text: " \r\n", used: 7},
		"a.\r\n.\r\n":                {text: "a.\r\n", used: 7},
		"a.b\r\nc\r\n.\r\n":          {text: "a.b\r\nc\r\n", used: 11},
		"\x00\xff\r\n.\xc3\r\n.\r\n": {text: "\x00\xff\r\n\xc3\r\n", used: 11},
		"a\n.\r\n.\r\n":              {text: "a\n.\r\n", bare: true, used: 8},
		"a\r.\r\n.\r\n":              {text: "a\r.\r\n", bare: true, used: 8},
		"a\r\r\n.\r\n":               {text: "a\r\r\n", bare: true, used: 7},
		"a\r\n\n.\r\n.\r\n":          {text: "a\r\n\n.\r\n", bare: true, used: 10},
		".\r\r\n.\r\n":               {text: "\r\r\n", bare: true, used: 7},
		".\r.\r\n.\r\n":              {text: "\r.\r\n", bare: true, used: 8},
		".\n.\r\n.\r\n":              {text: "\n.\r\n", bare: true, used: 8},
		"\n\r\n.\r\n":                {text: "\n\r\n", bare: true, used: 6},
	} {
		want.done = true
		is(t, s, 100, decoded(s, 100), want)
	}
}

// P7.2: what comes without the end: of a point that may be the end's, and of a CR, nothing is known yet.
func TestDecodeGoesOn(t *testing.T) {
	for s, want := range map[string]came{
		"": {}, ".": {}, ".\r": {}, "a": {text: "a"}, "a\r": {text: "a\r"}, "\r": {text: "\r"}, "\r\n": {text: "\r\n"}, "\r\n.": {text: "\r\n"}, "\r\n.\r": {text: "\r\n"}, "a\r\n.": {text: "a\r\n"}, "a\r\n.\r": {text: "a\r\n"},
		"..": {text: "."}, "..\r": {text: ".\r"}, ".a": {text: "a"}, "a.": {text: "a."}, "a.\r": {text: "a.\r"}, "a.\r\n": {text: "a.\r\n"}, "..\r\n": {text: ".\r\n"}, "..\r\n.": {text: ".\r\n"},
		"\n": {text: "\n", bare: true}, "\r\r": {text: "\r\r", bare: true}, "\ra": {text: "\ra", bare: true}, "a\rb": {text: "a\rb", bare: true}, "a\nb": {text: "a\nb", bare: true}, "a\n": {text: "a\n", bare: true}, "\n\r": {text: "\n\r", bare: true}, "\r\n\n": {text: "\r\n\n", bare: true}, "\r\r\n": {text: "\r\r\n", bare: true},
		".\n": {text: "\n", bare: true}, ".\rx": {text: "\rx", bare: true}, ".\r\r": {text: "\r\r", bare: true}, ".\r.": {text: "\r.", bare: true}, ".\r\r\n": {text: "\r\r\n", bare: true}, ".\r\r\n.": {text: "\r\r\n", bare: true}, "\n.\r\n": {text: "\n.\r\n", bare: true}, "\r.\r\n": {text: "\r.\r\n", bare: true},
	} {
		want.used = len(s)
		is(t, s, 100, decoded(s, 100), want)
	}
}

// P7.2: as many bytes as the message may have aren't too many; of more, so many are kept, and all else is told still.
func TestDecodeLarge(t *testing.T) {
	for _, c := range []struct {
		s    string
		most int
		want came
	}{
		{"abc\r\n.\r\n", 5, came{text: "abc\r\n", used: 8, done: true}},
		{"abc\r\n.\r\n", 4, came{text: "abc\r", large: true, used: 8, done: true}},
		{"abc\r\n.\r\n", 3, came{text: "abc", large: true, used: 8, done: true}},
		{"abc\r\n.\r\n", 1, came{text: "a", large: true, used: 8, done: true}},
		{"abc", 3, came{text: "abc", used: 3}},
		{"abcd", 3, came{text: "abc", large: true, used: 4}},
		{".abc", 3, came{text: "abc", used: 4}},
		{"..bc", 3, came{text: ".bc", used: 4}},
		{"..bcd", 3, came{text: ".bc", large: true, used: 5}},
		{"a\r\n.", 3, came{text: "a\r\n", used: 4}},
		{"a\r\n.\r", 3, came{text: "a\r\n", used: 5}},
		{"a\r\n.\ra", 3, came{text: "a\r\n", bare: true, large: true, used: 6}},
		{"a\r\n.\ra", 4, came{text: "a\r\n\r", bare: true, large: true, used: 6}},
		{"a\r\n.\ra", 5, came{text: "a\r\n\ra", bare: true, used: 6}},
		{"abcdef\n", 3, came{text: "abc", bare: true, large: true, used: 7}},
		{"abcdef\rg", 3, came{text: "abc", bare: true, large: true, used: 8}},
		{"abcdef\r", 3, came{text: "abc", large: true, used: 7}},
		{"abcdef\r\n..\r\n.\r\nx", 3, came{text: "abc", large: true, used: 15, done: true}},
		{many("a", 1001), 3, came{text: "aaa", long: true, large: true, used: 1001}},
	} {
		is(t, c.s, c.most, decoded(c.s, c.most), c.want)
	}
}

// P7.2: of a bound of 0, and of one below it, a message has no byte; one that is beyond all is no bound.
func TestDecodeBounds(t *testing.T) {
	for _, most := range []int{0, -1, -1000, math.MinInt} {
		is(t, ".\r\nx", most, decoded(".\r\nx", most), came{used: 3, done: true})
		is(t, "", most, decoded("", most), came{})
		is(t, ".\r", most, decoded(".\r", most), came{used: 2})
		is(t, "a", most, decoded("a", most), came{large: true, used: 1})
		is(t, ".\ra", most, decoded(".\ra", most), came{large: true, bare: true, used: 3})
		is(t, "\r\n.\r\n", most, decoded("\r\n.\r\n", most), came{large: true, used: 5, done: true})
	}
	for _, most := range []int{8, 1 << 40, math.MaxInt} {
		is(t, "..a\r\nb\r\n.\r\n", most, decoded("..a\r\nb\r\n.\r\n", most), came{text: ".a\r\nb\r\n", used: 11, done: true})
	}
}

// P7.2, P7.3: lines of 1000 bytes and of one more, with and without a point that is left out, with an end and without.
func TestDecodeLong(t *testing.T) {
	for s, long := range map[string]bool{
		many("a", 998) + "\r\n":                        false,
		many("a", 999) + "\r\n":                        true,
		"." + many("a", 998) + "\r\n":                  false,
		"." + many("a", 999) + "\r\n":                  true,
		".." + many("a", 997) + "\r\n":                 false,
		".." + many("a", 998) + "\r\n":                 true,
		many("a", 1000):                                false,
		many("a", 1001):                                true,
		"." + many("a", 1000):                          false,
		"." + many("a", 1001):                          true,
		many("a", 999) + "\r":                          false,
		many("a", 1000) + "\r":                         true,
		many("a", 5000) + "\r\n":                       true,
		many(many("a", 998)+"\r\n", 30):                false,
		"a\r\n" + many("a", 999) + "\r\na":             true,
		many("a", 999) + "\r\na\r\n":                   true,
		many("a", 998) + "\r\n.":                       false,
		many("a", 998) + "\r\n.\r\n":                   false,
		many("a", 998) + "\r\n.\r\n" + many("a", 2000): false,
		many("\r\n", 2000):                             false,
	} {
		want := plainDecode(s, 1<<20)
		want.long = long
		is(t, s, 1<<20, decoded(s, 1<<20), want)
		want.text, want.large = want.text[:min(10, len(want.text))], len(want.text) > 10
		is(t, s, 10, decoded(s, 10), want)
	}
	// A CR or LF alone ends no line, wherever the line has it.
	for _, alone := range []string{"\r", "\n"} {
		for _, n := range []int{0, 1, 500, 996, 997} {
			s := many("a", n) + alone + many("a", 997-n)
			is(t, s, 2000, decoded(s+"\r\n", 2000), came{text: s + "\r\n", bare: true, used: 1000})
			is(t, s, 2000, decoded("."+s+"\r\n", 2000), came{text: s + "\r\n", bare: true, used: 1001})
			is(t, s, 2000, decoded(s+"a\r\n", 2000), came{text: s + "a\r\n", bare: true, long: true, used: 1001})
			is(t, s, 2000, decoded("."+s+"a\r\n", 2000), came{text: s + "a\r\n", bare: true, long: true, used: 1002})
		}
	}
}

// P7.2: Feed tells step by step how far it took and whether the end has come; behind the end it takes nothing.
func TestFeed(t *testing.T) {
	d := NewDecoder(100)
	is(t, "", 100, of(d.Text(), 0, d.Done()), came{})
	want := came{}
	for i, step := range []struct {
		s    string
		used int
		done bool
		text string
	}{
		{"", 0, false, ""}, {"a\r", 2, false, "a\r"}, {"", 0, false, "a\r"}, {"\n.", 2, false, "a\r\n"}, {"\r", 1, false, "a\r\n"}, {"x\r\n.", 4, false, "a\r\n\rx\r\n"}, {".\r\n.\r", 5, false, "a\r\n\rx\r\n.\r\n"},
		{"\nQUIT\r\n", 1, true, "a\r\n\rx\r\n.\r\n"}, {"QUIT\r\n", 0, true, "a\r\n\rx\r\n.\r\n"}, {"", 0, true, "a\r\n\rx\r\n.\r\n"}, {"\r\n.\r\n", 0, true, "a\r\n\rx\r\n.\r\n"}, {many("a\n", 5000), 0, true, "a\r\n\rx\r\n.\r\n"},
	} {
		used, done := d.Feed([]byte(step.s))
		if used != step.used || done != step.done || d.Done() != done {
			t.Errorf("%d: %d %v", i, used, done)
		}
		want.text, want.bare, want.done = step.text, i >= 5, step.done
		is(t, step.s, 100, of(d.Text(), 0, d.Done()), want)
	}
	if used, done := d.Feed(nil); used != 0 || !done {
		t.Errorf("%d %v", used, done)
	}
}

// P7.2, P7.3: all texts of few bytes are what the chapter's words make of them, at once and in pieces, with room and without.
func TestDecodeAllShort(t *testing.T) {
	each(signs(), 7, func(s string) {
		bytewise := strings.Split(s, "")
		for _, most := range []int{100, 4, 1, 0} {
			want := plainDecode(s, most)
			is(t, s, most, decoded(s, most), want)
			is(t, s, most, pieces(most, bytewise...), want)
		}
		for at := range s {
			is(t, s, 100, pieces(100, s[:at], s[at:]), plainDecode(s, 100))
		}
	})
}

// drawn is a text of pieces that lines are told by, with runs near the greatest length of a line.
func drawn(r *rand.Rand) string {
	l := append(signs(), "\r\n", "\r\n", "\r\n.", "\r\n..", ".", many("a", 996), many("a", 998), many("b", 500), "abc")
	s := ""
	for range r.Intn(30) {
		s += l[r.Intn(len(l))]
	}
	return s
}

// P7.2, P7.3: so are drawn texts of long lines; however the bytes come in pieces, it is the same.
func TestDecodeDrawn(t *testing.T) {
	r := rand.New(rand.NewSource(7))
	for range 3000 {
		s := drawn(r)
		most := r.Intn(2*len(s) + 1)
		want := plainDecode(s, most)
		is(t, s, most, decoded(s, most), want)
		is(t, s, most, pieces(most, strings.Split(s, "")...), want)
		var l []string
		for left := s; left != ""; {
			n := r.Intn(min(len(left), 700) + 1)
			l, left = append(l, left[:n]), left[n:]
		}
		is(t, s, most, pieces(most, l...), want)
	}
}

// back fails, unless Decode of Send is the message, with the line's end that Send puts, and nothing is wrong.
func back(t *testing.T, msg string) {
	t.Helper()
	sent := string(Send([]byte(msg)))
	if msg != "" && !strings.HasSuffix(msg, "\r\n") {
		msg += "\r\n"
	}
	is(t, sent, len(msg), decoded(sent+"QUIT\r\n", len(msg)), came{text: msg, used: len(sent), done: true})
}

// P7.3: what is sent is decoded as it was.
func TestSentIsDecoded(t *testing.T) {
	each([]string{".", "\r\n", "a", "\x00", "\xff"}, 6, func(s string) { back(t, s) })
	for _, s := range []string{many("a", 998), many("a", 998) + "\r\n", "." + many("a", 997), many(".", 998) + "\r\n", many(many(".", 998)+"\r\n", 32), many(".\r\n", 11000)} {
		back(t, s)
	}
	for v := range 256 {
		if b := string([]byte{byte(v)}); b != "\r" && b != "\n" {
			back(t, b+"\r\n"+b+b)
		}
	}
}

// P7.4: what is handed in stays and isn't kept; what lies behind its length is neither read nor written.
func TestFeedHandedInStays(t *testing.T) {
	whole := []byte("ab\r\n..c\r\n.\rd\r\n.\r\n.\r\n")
	was := string(whole)
	for n := range whole {
		d := NewDecoder(100)
		d.Feed(whole[:n])
		x, used, done := Decode(whole[:n], 100)
		if string(whole) != was {
			t.Fatalf("%d bytes: changed to %q", n, whole)
		}
		clear(whole)
		is(t, was[:n], 100, of(x, used, done), plainDecode(was[:n], 100))
		copy(whole, was)
		d.Feed(whole[n:])
		clear(whole)
		is(t, was, 100, of(d.Text(), plainDecode(was, 100).used, d.Done()), plainDecode(was, 100))
		copy(whole, was)
	}
}

// P7.4: what is answered may be written over and grown, and neither the decoder nor another answer changes by it.
func TestTextIsNew(t *testing.T) {
	d := NewDecoder(100)
	s := "ab\r\n..c\r\n.\rd\r\n.\r\n"
	for at := range s {
		first, second := d.Text(), d.Text()
		for i := range first.Bytes {
			first.Bytes[i] = 'x'
		}
		_ = append(first.Bytes, many("y", 100)...)
		want := plainDecode(s[:at], 100)
		is(t, s[:at], 100, of(second, at, d.Done()), want)
		d.Feed([]byte(s[at : at+1]))
		_ = append(second.Bytes, many("z", 100)...)
		is(t, s[:at], 100, of(second, at, false), want)
	}
	is(t, s, 100, of(d.Text(), len(s), d.Done()), plainDecode(s, 100))
}

// P7.2: decoders know nothing of each other, and Text and Done change nothing.
func TestDecodersApart(t *testing.T) {
	a, b := NewDecoder(100), NewDecoder(2)
	for range 3 {
		a.Feed([]byte("a\r\n."))
		b.Feed([]byte("bb\n"))
		a.Text()
		b.Done()
	}
	is(t, "a", 100, of(a.Text(), 0, a.Done()), came{text: "a\r\na\r\na\r\n"})
	is(t, "b", 2, of(b.Text(), 0, b.Done()), came{text: "bb", bare: true, large: true})
	if !bytes.Equal(a.Text().Bytes, a.Text().Bytes) {
		t.Error("Text changes what it tells")
	}
}
