package reply

import (
	"math"
	"slices"
	"strings"
	"testing"

	"pigeonhole/api"
)

// of is a reply of a code, an enhanced code and lines.
func of(code int, enh string, lines ...string) api.Reply {
	return api.Reply{Code: code, Enh: enh, Lines: lines}
}

// equal tells whether two replies are the same.
func equal(a, b api.Reply) bool {
	return a.Code == b.Code && a.Enh == b.Enh && slices.Equal(a.Lines, b.Lines)
}

// sent fails, unless a reply is one, and is sent as that.
func sent(t *testing.T, r api.Reply, want string) {
	t.Helper()
	if b, e := Bytes(r); string(b) != want || e != api.OK || !Good(r) {
		t.Errorf("%d %q %.99q: %.99q %v", r.Code, r.Enh, r.Lines, b, e)
	}
}

// unsent fails, unless what isn't a reply is refused.
func unsent(t *testing.T, r api.Reply) {
	t.Helper()
	if b, e := Bytes(r); len(b) != 0 || e != api.ErrForm || Good(r) {
		t.Errorf("%d %q %.99q: %.99q %v", r.Code, r.Enh, r.Lines, b, e)
	}
}

// P8.1: replies are sent line by line, each with its codes, the last one with a blank.
func TestBytes(t *testing.T) {
	sent(t, of(250, "2.1.0", "ok"), "250 2.1.0 ok\r\n")
	sent(t, of(250, "", "a", "b"), "250-a\r\n250 b\r\n")
	sent(t, of(250, "2.0.0", "a", "", "c"), "250-2.0.0 a\r\n250-2.0.0 \r\n250 2.0.0 c\r\n")
	sent(t, of(550, "5.1.1", "no", ""), "550-5.1.1 no\r\n550 5.1.1 \r\n")
	sent(t, of(354, "", ""), "354 \r\n")
	sent(t, of(220, "", " a ", "-", "~"), "220- a \r\n220--\r\n220 ~\r\n")
	sent(t, of(421, "4.999.999", "x y"), "421 4.999.999 x y\r\n")
	sent(t, of(599, "5.7.10", "5.7.10 x"), "599 5.7.10 5.7.10 x\r\n")
	sent(t, of(200, "2.10.100", "250 x"), "200 2.10.100 250 x\r\n")
	sent(t, of(250, "", many("a", 400)), "250 "+many("a", 400)+"\r\n")
	sent(t, of(250, "2.345.678", many("a", 400), many("~", 400)), "250-2.345.678 "+many("a", 400)+"\r\n250 2.345.678 "+many("~", 400)+"\r\n")
	sent(t, of(250, "", slices.Repeat([]string{"a"}, 20000)...), many("250-a\r\n", 19999)+"250 a\r\n")
}

// P8.1: codes from 200 to 599 are some, no others.
func TestGoodCode(t *testing.T) {
	for code := -1300; code < 3000; code++ {
		r := of(code, "", "a")
		if Good(r) != (code >= 200 && code <= 599) {
			t.Errorf("Good of %d: %v", code, Good(r))
		}
	}
	for _, code := range []int{math.MinInt, math.MinInt + 250, -250, 1 << 32, 1<<32 + 250, 1<<16 + 250, math.MaxInt} {
		unsent(t, of(code, "", "a"))
		unsent(t, of(code, "2.0.0", "a"))
	}
}

// P8.1: an enhanced code fits codes that begin with its class; there is none for codes that begin with 3.
func TestGoodEnhanced(t *testing.T) {
	for code := -1300; code < 3000; code++ {
		for class, enh := range []string{"0.1.2", "1.1.2", "2.1.2", "3.1.2", "4.1.2", "5.1.2", "6.1.2"} {
			want := code >= 200 && code <= 599 && code/100 == class && class != 3
			if r := of(code, enh, "a"); Good(r) != want {
				t.Errorf("Good of %d %s: %v", code, enh, !want)
			}
		}
	}
	for _, enh := range []string{"2", "2.0", "2.0.0.0", "2.00.0", "2.0.01", "2.1000.0", " 2.0.0", "2.0.0 ", " ", "2.0.0\r\n", "\x00", "22.0.0", "a", many("2.0.0", 50000)} {
		unsent(t, of(250, enh, "a"))
	}
}

// P8.1: a reply has a line at least.
func TestGoodLines(t *testing.T) {
	unsent(t, api.Reply{})
	unsent(t, of(250, ""))
	unsent(t, of(250, "2.0.0"))
	unsent(t, api.Reply{Code: 250, Lines: []string{}})
	unsent(t, api.Reply{Code: 250, Lines: []string{"a"}[:0]})
}

// P8.1: lines are no longer than 400 bytes, whichever of them it is; what the enhanced code takes isn't counted.
func TestGoodLength(t *testing.T) {
	for _, n := range []int{0, 1, 399, 400, 401, 402, 512, 70000} {
		s := many("a", n)
		for _, r := range []api.Reply{of(250, "", s), of(250, "2.345.678", s), of(250, "", s, "a"), of(250, "2.0.0", "a", s), of(250, "", "a", s, "a")} {
			if Good(r) != (n <= 400) {
				t.Errorf("Good of %d bytes: %v", n, n > 400)
			}
		}
	}
	// Of 200 runes, 400 bytes, and one of two bytes more.
	unsent(t, of(250, "", many("\u00e9", 201)))
}

// P8.1: a line has bytes from 20 to 7e, wherever they stand.
func TestGoodEachByte(t *testing.T) {
	for v := range 256 {
		for _, s := range []string{one(v), "a" + one(v), one(v) + "a", "a" + one(v) + "a", many("a", 399) + one(v)} {
			for _, r := range []api.Reply{of(250, "", s), of(250, "2.0.0", s), of(250, "", s, "a"), of(250, "", "a", "b", s)} {
				if want := v >= 0x20 && v <= 0x7e; Good(r) != want {
					t.Errorf("Good of %q: %v", s, !want)
				}
			}
		}
	}
}

// P8.3: codes from 500 to 599 say no for good.
func TestLasting(t *testing.T) {
	for code := -1300; code < 3000; code++ {
		if Lasting(code) != (code >= 500 && code <= 599) {
			t.Errorf("Lasting(%d): %v", code, Lasting(code))
		}
	}
	for _, code := range []int{math.MinInt, math.MinInt + 550, -550, 1<<16 + 550, 1<<32 + 550, math.MaxInt} {
		if Lasting(code) {
			t.Errorf("Lasting(%d)", code)
		}
	}
}

// P8.3: codes in their order, those of what isn't a reply, too.
func TestCodes(t *testing.T) {
	for _, want := range [][]int{nil, {250}, {550, 250, 250}, {0, -1, 199, 600, math.MinInt, math.MaxInt}} {
		var l []api.Reply
		for _, code := range want {
			l = append(l, of(code, "2.0.0", "a", "b"))
		}
		got := Codes(l)
		if !slices.Equal(got, want) {
			t.Errorf("%v, not %v", got, want)
		}
		clear(l)
		again := Codes(l)
		if !slices.Equal(got, want) || len(again) != len(want) {
			t.Errorf("%v, not %v, behind a change of the list", got, want)
		}
	}
	if c := Codes([]api.Reply{}); len(c) != 0 {
		t.Errorf("%v", c)
	}
}

// P8.4: what is handed in stays, and what lies behind a list's length is neither read nor written.
func TestRepliesHandedInStay(t *testing.T) {
	lines := []string{"a", "b", "c\r", "d"}
	was := slices.Clone(lines)
	for n := range 3 {
		r := of(250, "2.0.0", lines[:n]...)
		b, e := Bytes(r)
		if (e == api.OK) != (n > 0) || strings.Count(string(b), "\r\n") != n || Good(r) != (n > 0) || !slices.Equal(lines, was) {
			t.Errorf("%d lines: %q %v, left %q", n, b, e, lines)
		}
	}
	l := []api.Reply{of(1, ""), of(2, ""), of(3, "")}
	c := Codes(l[:1])
	if c = append(c, 7); !slices.Equal(c, []int{1, 7}) || l[1].Code != 2 {
		t.Errorf("%v, left %v", c, l)
	}
}

// P8.4: what is sent is new memory.
func TestBytesAreNew(t *testing.T) {
	r := of(250, "2.0.0", "a", "b")
	const want = "250-2.0.0 a\r\n250 2.0.0 b\r\n"
	a, _ := Bytes(r)
	b, _ := Bytes(r)
	clear(b)
	_ = append(b[:0], many("y", 100)...)
	r.Lines[0] = "other"
	if string(a) != want {
		t.Errorf("%q", a)
	}
	r.Lines[0] = "a"
	sent(t, r, want)
}
