package reply

import (
	"bytes"
	"math/rand"
	"regexp"
	"slices"
	"strings"
	"testing"

	"pigeonhole/api"
)

// brief is a reply with the first of its lines alone, and these not whole.
func brief(r api.Reply) api.Reply {
	var lines []string
	for _, s := range r.Lines[:min(len(r.Lines), 5)] {
		lines = append(lines, s[:min(len(s), 30)])
	}
	return of(r.Code, r.Enh, lines...)
}

// readAs fails, unless bytes begin with that reply, and what is told of its length is right.
func readAs(t *testing.T, s string, enh bool, n int, want api.Reply) {
	t.Helper()
	if r, got, e := Read([]byte(s), enh); !equal(r, want) || got != n || e != api.OK {
		t.Fatalf("Read(%.99q, %v): %v %d %v, not %v %d", s, enh, brief(r), got, e, brief(want), n)
	}
}

// unread fails, unless bytes are refused by that error, and nothing is told beside it.
func unread(t *testing.T, s string, enh bool, want api.Errno) {
	t.Helper()
	if r, n, e := Read([]byte(s), enh); !equal(r, api.Reply{}) || n != 0 || e != want {
		t.Fatalf("Read(%.99q, %v): %v %d %v, not %v", s, enh, brief(r), n, e, want)
	}
	if l, e := All([]byte(s), enh); len(l) != 0 || e != want && s != "" {
		t.Fatalf("All(%.99q, %v): %d %v, not %v", s, enh, len(l), e, want)
	}
}

// plainForms are what lines without and with an enhanced code look like.
var plainForms = map[bool]*regexp.Regexp{
	false: regexp.MustCompile(`\A([2-5][0-9][0-9])([- ])([ -~]*)\z`),
	true:  regexp.MustCompile(`\A([245][0-9][0-9])([- ])([245]\.(?:0|[1-9][0-9]{0,2})\.(?:0|[1-9][0-9]{0,2})) ([ -~]*)\z`),
}

// plainRead is what bytes begin with, by the chapter's words.
func plainRead(s string, enh bool) (r api.Reply, n int, e api.Errno) {
	var first []string
	for l := strings.Split(s, "\r\n"); ; l = l[1:] {
		if len(l) == 1 {
			return api.Reply{}, 0, api.ErrShort
		}
		m := plainForms[enh].FindStringSubmatch(l[0])
		if m == nil || len(m[len(m)-1]) > 400 || first != nil && m[1] != first[1] || enh && (m[3][0] != m[1][0] || first != nil && m[3] != first[3]) {
			return api.Reply{}, 0, api.ErrForm
		}
		if first == nil {
			first = m
		}
		if enh {
			r.Enh = m[3]
		}
		r.Code = int(m[1][0]-'0')*100 + int(m[1][1]-'0')*10 + int(m[1][2]-'0')
		r.Lines = append(r.Lines, m[len(m)-1])
		n += len(l[0]) + 2
		if m[2] == " " {
			return r, n, api.OK
		}
	}
}

// asTold fails, unless bytes are read as the chapter's words tell.
func asTold(t *testing.T, s string) {
	t.Helper()
	for _, enh := range []bool{false, true} {
		if r, n, e := plainRead(s, enh); e == api.OK {
			readAs(t, s, enh, n, r)
		} else {
			unread(t, s, enh, e)
		}
	}
}

// P8.2: replies with which bytes begin, and how many bytes they have, whatever stands behind.
func TestRead(t *testing.T) {
	for s, want := range map[string]api.Reply{
		"250 ok\r\n": of(250, "", "ok"), "250 \r\n": of(250, "", ""), "250-a\r\n250 b\r\n": of(250, "", "a", "b"), "354-\r\n354-\r\n354 \r\n": of(354, "", "", "", ""), "200  a \r\n": of(200, "", " a "), "599 -\r\n": of(599, "", "-"),
		"250 2.0.0 ok\r\n": of(250, "", "2.0.0 ok"), "250-2.0.0 a\r\n250 5.0.0\r\n": of(250, "", "2.0.0 a", "5.0.0"), "250-250 a\r\n250 251 b\r\n": of(250, "", "250 a", "251 b"), "220--\r\n220 -\r\n": of(220, "", "-", "-"),
		"250 " + many("~", 400) + "\r\n": of(250, "", many("~", 400)), many("250-a\r\n", 20000) + "250 b\r\n": of(250, "", append(slices.Repeat([]string{"a"}, 20000), "b")...),
	} {
		for _, behind := range []string{"", "250 more\r\n", "250", "\r\n", "\n", "\x00", many("x", 1000)} {
			readAs(t, s+behind, false, len(s), want)
		}
	}
}

// P8.2: with an enhanced code.
func TestReadEnhanced(t *testing.T) {
	for s, want := range map[string]api.Reply{
		"250 2.1.0 ok\r\n": of(250, "2.1.0", "ok"), "250 2.1.0 \r\n": of(250, "2.1.0", ""), "550-5.1.1 a\r\n550 5.1.1 b\r\n": of(550, "5.1.1", "a", "b"), "421-4.999.999 \r\n421 4.999.999 \r\n": of(421, "4.999.999", "", ""),
		"250 2.1.0  a \r\n": of(250, "2.1.0", " a "), "250 2.1.0 2.1.0 a\r\n": of(250, "2.1.0", "2.1.0 a"), "250 2.345.678 " + many("~", 400) + "\r\n": of(250, "2.345.678", many("~", 400)), "250 2.0.100 -\r\n": of(250, "2.0.100", "-"),
	} {
		for _, behind := range []string{"", "250 2.1.0 more\r\n", "250 2.1.0", "\r\n", "\n", "\x00", many("x", 1000)} {
			readAs(t, s+behind, true, len(s), want)
		}
	}
}

// P8.2: what has no line's end is too short, whatever it is else.
func TestReadShort(t *testing.T) {
	for _, s := range []string{
		"", "2", "250", "250 ", "250 ok", "250 ok\r", "250 ok\n", "250 ok\n\r", "\r", "\n", "\n\r", "250-2.0.0 a\r\n", "250-2.0.0 a\r\n250 2.0.0 b", "250-2.0.0 a\r\n250 2.0.0 b\r", "250-2.0.0 a\r\n250-2.0.0 b\r\n", "250-2.0.0 a\r\n\n",
		"x", "199 a", "\x00\xff", "250 a\x00", "250 " + many("a", 500), "250-2.0.0 a\r\n251 2.0.0 b", "250-2.0.0 a\r\n250 2.0.1 b", "250-2.0.0 a\r\nx", many("\n", 5000) + many("\r", 5000), many("250-2.0.0 a\r\n", 20000),
	} {
		unread(t, s, false, api.ErrShort)
		unread(t, s, true, api.ErrShort)
	}
	unread(t, "250-a\r\n", false, api.ErrShort)
}

// P8.2: what has a line's end, but isn't of the form, with an enhanced code asked for or not.
func TestReadForm(t *testing.T) {
	for _, s := range []string{
		"\r\n", "2\r\n", "25\r\n", "250\r\n", "250", "250ok", "250\tok", "250+ok", "250_ok", "250\x00ok", " 250 ok", "2500 ok", "25 ok", "25  ok", "2 50 ok", "0250 ok", "+50 ok", "-50 ok", "+250 ok", "-250 ok", "2a0 ok", "a50 ok", "25a ok", "2.0 ok", " 50 ok", "\u0662 ok", "0xff ok", "2_0 ok", "1e2 ok",
		"199 2.0.0 a", "600 2.0.0 a", "000 2.0.0 a", "050 2.0.0 a", "099 2.0.0 a", "100 2.0.0 a", "999 2.0.0 a",
		"250 2.0.0 a\x00", "250 2.0.0 a\x1f", "250 2.0.0 a\x7f", "250 2.0.0 a\xff", "250 2.0.0 a\r", "250 2.0.0 a\rb", "250 2.0.0 a\nb", "250 2.0.0 \u00e9", "250 2.0.0 \t", "250-2.0.0 a\n250 2.0.0 b", "250 2.0.0 " + many("a", 401), "250 2.0.0 " + many("a", 70000),
		"250-2.0.0 a\r\n251 2.0.0 b", "250-2.0.0 a\r\n251-2.0.0 b", "250-2.0.0 a\r\n350 2.0.0 b", "250-2.0.0 a\r\n25 2.0.0 b", "250-2.0.0 a\r\n2500 2.0.0 b", "250-2.0.0 a\r\n", "250-2.0.0 a\r\n250", "250-2.0.0 a\r\n250-2.0.0 b\r\n252 2.0.0 c", "250-2.0.0 a\r\n 250 2.0.0 b", "250-2.0.0 a\r\n250 2.0.0 " + many("a", 401), "250-2.0.0 a\r\n250 2.0.0 b\x00",
	} {
		unread(t, s+"\r\n", false, api.ErrForm)
		unread(t, s+"\r\n", true, api.ErrForm)
		unread(t, s+"\r\n250 2.0.0 ok\r\n", true, api.ErrForm)
	}
}

// P8.2: with an enhanced code asked for, each line has it, the same, and it fits the code.
func TestReadEnhancedForm(t *testing.T) {
	for _, s := range []string{
		"250 ok", "250 ", "250  ", "250  2.0.0 a", "250  a", "250 2", "250 2.0", "250 2.0.0", "250 2.0.0-a", "250 2.0.0\ta", "250 a 2.0.0 b", "250 2.0 a", "250 2.0.0.0 a", "250 2.00.0 a", "250 2.0.01 a", "250 2.1000.0 a", "250 22.0.0 a", "250 02.0.0 a", "250-",
		"250 4.0.0 a", "250 5.0.0 a", "250 3.0.0 a", "354 3.0.0 a", "354 2.0.0 a", "354 a", "450 5.0.0 a", "450 2.0.0 a", "550 4.0.0 a", "550 2.0.0 a", "550 250 a",
		"250-2.0.0 a\r\n250 2.0.1 b", "250-2.0.0 a\r\n250 2.1.0 b", "250-2.0.0 a\r\n250 b", "250-2.0.0 a\r\n250 2.0.0", "250-2.0.0 a\r\n250 ", "250-2.0.0 a\r\n250-2.0.0 b\r\n250 2.0.2 c", "250-2.0.0 a\r\n550 5.0.0 b", "250-2.0.0 a\r\n250 5.0.0 b", "250-2.0.0 a\r\n250  b", "250-a\r\n250 2.0.0 b",
	} {
		unread(t, s+"\r\n", true, api.ErrForm)
	}
}

// P8.2: the first fault that is met is told: what is wrong in a line ahead of what comes too short, and the other way round.
func TestReadFirstFault(t *testing.T) {
	unread(t, "x\r\n250", false, api.ErrForm)
	unread(t, "250-a\r\nx\r\n250", false, api.ErrForm)
	unread(t, "250-a\r\n251-b\r\n", false, api.ErrForm)
	unread(t, "250-a\r\n250-b\x00\r\n250 c", false, api.ErrForm)
	unread(t, "250-a\r\n251 b", false, api.ErrShort)
	unread(t, "250-a\x00", false, api.ErrShort)
	unread(t, "250-2.0.0 a\r\n250-b\r\n", true, api.ErrForm)
	unread(t, "250-2.0.0 a\r\n250-b\r", true, api.ErrShort)
	// What is wrong behind the reply isn't met.
	readAs(t, "250 a\r\nx\r\n", false, 7, of(250, "", "a"))
}

// P8.2: each code of three digits, and of each length of a line.
func TestReadCodesAndLengths(t *testing.T) {
	for _, x := range "0123456789" {
		for _, y := range "0123456789" {
			for _, z := range "0123456789" {
				code := string([]rune{x, y, z})
				for _, enh := range []string{"1", "2", "3", "4", "5", "6"} {
					asTold(t, code+" "+enh+".0.0 a\r\n")
				}
			}
		}
	}
	for n := 380; n < 430; n++ {
		asTold(t, "250 "+many("a", n)+"\r\n")
		asTold(t, "250 2.1.0 "+many("a", n)+"\r\n")
		asTold(t, "250-2.345.678 a\r\n250 2.345.678 "+many("a", n)+"\r\n")
	}
}

// P8.2: each byte in each place of replies, and between their bytes.
func TestReadEachByte(t *testing.T) {
	for _, s := range []string{"250 ok\r\n", "450-4.1.0 a\r\n450 4.1.0 b\r\n", "599-a\r\n599 b\r\n200 c\r\n"} {
		for i := range len(s) + 1 {
			asTold(t, s[:i])
			for v := range 256 {
				asTold(t, s[:i]+one(v)+s[i:])
				if i < len(s) {
					asTold(t, s[:i]+one(v)+s[i+1:])
				}
			}
		}
	}
}

// P8.2: all texts of few pieces are what the chapter's words make of them.
func TestReadAllShort(t *testing.T) {
	each([]string{"250", "551", "-", " ", "2.0.0 ", "5.1.1", "\r\n"}, 5, func(s string) { asTold(t, s) })
	each([]string{"250-2.0.0 a\r\n", "250 2.0.0 b\r\n", "550-5.0.0 \r\n", "550 \r\n", "250-2.0.1 c\r\n", "250 d", "\r", "\n"}, 4, func(s string) { asTold(t, s) })
}

// drawn is a text of lines of replies, most of them right.
func drawn(r *rand.Rand) string {
	l := []string{"250", "250", "550", "354", "199", "-", "-", " ", " ", " ", "2.0.0 ", "2.0.0 ", "5.1.1 ", "a", "~", "\r\n", "\r\n", "\x00", many("b", 400)}
	s := ""
	for range r.Intn(8) {
		if r.Intn(4) > 0 {
			s += []string{"250-2.0.0 x\r\n", "250 2.0.0 y\r\n", "250-2.0.0 " + many("z", 398+r.Intn(5)) + "\r\n"}[r.Intn(3)]
		} else {
			s += l[r.Intn(len(l))]
		}
	}
	return s
}

// P8.2: so are drawn texts, with Read and with All.
func TestReadDrawn(t *testing.T) {
	r := rand.New(rand.NewSource(8))
	for range 20000 {
		s := drawn(r)
		asTold(t, s)
		for _, enh := range []bool{false, true} {
			all(t, s, enh)
		}
	}
}

// all fails, unless all of the bytes are replies as the chapter's words tell, one behind the other.
func all(t *testing.T, s string, enh bool) {
	t.Helper()
	var want []api.Reply
	wrong := api.OK
	for left := s; left != "" && wrong == api.OK; {
		r, n, e := plainRead(left, enh)
		want, wrong, left = append(want, r), e, left[n:]
	}
	if wrong != api.OK {
		want = nil
	}
	if l, e := All([]byte(s), enh); e != wrong || !slices.EqualFunc(l, want, equal) {
		t.Fatalf("All(%.99q, %v): %v %v, not %v %v", s, enh, len(l), e, len(want), wrong)
	}
}

// P8.2: replies one behind the other, all of them or none.
func TestAll(t *testing.T) {
	for _, c := range []struct {
		s    string
		enh  bool
		want []api.Reply
		e    api.Errno
	}{
		{"", false, nil, api.OK}, {"", true, nil, api.OK},
		{"220 a\r\n", false, []api.Reply{of(220, "", "a")}, api.OK},
		{"220 a\r\n250-b\r\n250 c\r\n354 \r\n", false, []api.Reply{of(220, "", "a"), of(250, "", "b", "c"), of(354, "", "")}, api.OK},
		{"250 2.0.0 a\r\n550-5.1.1 b\r\n550 5.1.1 c\r\n", true, []api.Reply{of(250, "2.0.0", "a"), of(550, "5.1.1", "b", "c")}, api.OK},
		{"250 a\r\n250 a\r\n", false, []api.Reply{of(250, "", "a"), of(250, "", "a")}, api.OK},
		{"220 a\r\n250", false, nil, api.ErrShort}, {"220 a\r\n250-b\r\n", false, nil, api.ErrShort}, {"220 a\r\n\n", false, nil, api.ErrShort},
		{"220 a\r\nx\r\n", false, nil, api.ErrForm}, {"220 a\r\n\r\n", false, nil, api.ErrForm}, {"220 a\r\n250-b\r\n251 c\r\n", false, nil, api.ErrForm}, {"250 2.0.0 a\r\n250 b\r\n", true, nil, api.ErrForm}, {"x\r\n250", false, nil, api.ErrForm}, {"250 2.0.0 a\r\n354 b\r\n", true, nil, api.ErrForm},
	} {
		if l, e := All([]byte(c.s), c.enh); e != c.e || !slices.EqualFunc(l, c.want, equal) {
			t.Errorf("All(%q, %v): %v %v", c.s, c.enh, l, e)
		}
		all(t, c.s, c.enh)
	}
	if l, e := All(nil, false); len(l) != 0 || e != api.OK {
		t.Errorf("All(nil): %v %v", l, e)
	}
	if l, e := All([]byte(many("250 a\r\n", 50000)), false); len(l) != 50000 || e != api.OK {
		t.Errorf("%d %v", len(l), e)
	}
}

// samples are replies of all kinds, with an enhanced code and without.
func samples() []api.Reply {
	var l []api.Reply
	for _, lines := range [][]string{{""}, {"ok"}, {"a", "b"}, {"", "", ""}, {"2.0.0 a", " ", "-"}, {many("a", 400), many(" ", 400)}, {"250-a", "250 b"}} {
		l = append(l, of(200, "", lines...), of(250, "2.0.0", lines...), of(354, "", lines...), of(499, "4.999.999", lines...), of(500, "5.10.100", lines...), of(599, "", lines...))
	}
	return l
}

// P8.4: what is sent is read as it was, with an enhanced code just if it has one.
func TestReadOfBytes(t *testing.T) {
	var row []byte
	for _, r := range samples() {
		b, e := Bytes(r)
		if e != api.OK {
			t.Errorf("%v: %v", brief(r), e)
		}
		readAs(t, string(b)+"x", r.Enh != "", len(b), r)
		if r.Enh == "" {
			row = append(row, b...)
		}
	}
	l, e := All(row, false)
	if e != api.OK || len(l) != 21 {
		t.Errorf("%d %v", len(l), e)
	}
	// What was read is sent as it stood there.
	var again []byte
	for _, r := range l {
		b, _ := Bytes(r)
		again = append(again, b...)
	}
	if !bytes.Equal(again, row) {
		t.Errorf("%.99q, not %.99q", again, row)
	}
}

// P8.4: what is handed in stays, and what lies behind its length is neither read nor written.
func TestBytesHandedInStay(t *testing.T) {
	whole := []byte("250-2.0.0 a\r\n250 2.0.0 b\r\n250 2.0.0 c\r\n")
	was := bytes.Clone(whole)
	for n := range whole {
		for _, enh := range []bool{false, true} {
			part := string(was[:n])
			r, used, e := Read(whole[:n], enh)
			if want, m, f := plainRead(part, enh); !equal(r, want) || used != m || e != f {
				t.Errorf("%d bytes: %v %d %v", n, brief(r), used, e)
			}
			if _, e := All(whole[:n], enh); (e == api.OK) != (n == 0 || n == 26) {
				t.Errorf("%d bytes: %v", n, e)
			}
		}
		if !bytes.Equal(whole, was) {
			t.Fatalf("%d bytes: changed to %q", n, whole)
		}
	}
}

// P8.4: what is read is new memory: it stays when the bytes or another answer are written over.
func TestReadIsNew(t *testing.T) {
	in := []byte("250-2.0.0 a\r\n250 2.0.0 b\r\n250-2.0.0 a\r\n250 2.0.0 b\r\n")
	want := of(250, "2.0.0", "a", "b")
	one, n, _ := Read(in, true)
	other, _, _ := Read(in, true)
	l, _ := All(in, true)
	for i := range in {
		in[i] = 'x'
	}
	other.Lines[0] = "other"
	_ = append(other.Lines, "more")
	_ = append(l[0].Lines, "more")
	clear(l[0].Lines)
	if !equal(one, want) || n != 26 || len(l) != 2 || !equal(l[1], want) {
		t.Errorf("%v %d %v", one, n, l)
	}
}
