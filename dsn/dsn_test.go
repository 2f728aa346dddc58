package dsn

import (
	"fmt"
	"math"
	"reflect"
	"strings"
	"testing"

	"pigeonhole/api"
)

// lastTime is the last time that has a stamp.
const lastTime = 253402300799

// many is a text so often in a row.
func many(s string, n int) string {
	return strings.Repeat(s, n)
}

// one is the text of one byte, even if that is no rune.
func one(v int) string {
	return string([]byte{byte(v)})
}

// at is a mailbox.
func at(local, domain string) api.Addr {
	return api.Addr{Local: local, Domain: domain}
}

// sample is a report that is right.
func sample() api.Report {
	return api.Report{Host: "x.org", To: at("a b", "y"), Rcpt: at("b", "z.net"), Status: "4.2.2", Reason: "over quota", Id: "7", Arrival: 0, Now: 951782400, Head: []byte("Subject: hi\r\n")}
}

// longest is a report that is right, with all that it may have.
func longest() api.Report {
	d := many("d", 60)
	head := many("--ph-"+many("i", 20)+"-0\r\n", 1000)
	return api.Report{Host: d + ".org", To: at(many("\" ", 31)+"\\x", d+".net"), Rcpt: at(many("\\", 64), d+".com"), Status: "5.999.999", Reason: many("r", 200), Id: many("i", 20), Arrival: lastTime, Now: lastTime, Head: []byte(head + many("h", api.MaxMsg-len(head)-2) + "\r\n")}
}

// shown is a report's beginning, for people to read.
func shown(r api.Report) string {
	head := string(r.Head)
	r.Head = nil
	return fmt.Sprintf("%.500s %.99q", fmt.Sprintf("%#v", r), head)
}

// turned is the sample with something turned.
func turned(turn func(r *api.Report)) api.Report {
	r := sample()
	turn(&r)
	return r
}

// good fails, unless a report is told right, or not, and Build takes it, or refuses it.
func good(t *testing.T, r api.Report, want bool) {
	t.Helper()
	if Good(r) != want {
		t.Errorf("Good(%s): %v", shown(r), !want)
	}
	b, e := Build(r)
	if want != (e == api.OK) || want != (len(b) > 0) || !want && e != api.ErrForm {
		t.Errorf("Build(%s): %.99q %v", shown(r), b, e)
	}
}

// each calls a function with all texts of so many pieces at most.
func each(pieces []string, most int, see func(s string)) {
	see("")
	if most == 0 {
		return
	}
	for _, p := range pieces {
		each(pieces, most-1, func(s string) { see(p + s) })
	}
}

// P11.1: reports that are right, the least and the longest ones among them.
func TestGood(t *testing.T) {
	good(t, sample(), true)
	good(t, longest(), true)
	good(t, api.Report{Host: "h", To: at("a", "b"), Rcpt: at("a", "b"), Status: "4.0.0", Reason: "r", Id: "0"}, true)
	good(t, api.Report{}, false)
}

// P11.1: the host is a domain.
func TestGoodHost(t *testing.T) {
	for s, want := range map[string]bool{
		"x": true, "X.Org": true, "1.2": true, "a-b.c": true, many("a", 64): true,
		"": false, ".": false, "x.": false, ".x": false, "-x": false, "x-": false, "a b": false, "a_b": false, "x@y": false, "x\r\n": false, "x\x00": false, "\u00e9": false, many("a", 65): false, many("a", 100000): false,
	} {
		good(t, turned(func(r *api.Report) { r.Host = s }), want)
	}
}

// P11.1: both mailboxes are good ones.
func TestGoodMailboxes(t *testing.T) {
	for a, want := range map[api.Addr]bool{
		at("a", "x"): true, at("A.b", "X.Org"): true, at(" ", "x"): true, at("\"", "x"): true, at("a\\", "x"): true, at("..", "x"): true, at("a@b", "x"): true, at(many("a", 64), many("x", 64)): true, at(many("\"", 64), "x"): true, at("--ph-7-0", "x"): true,
		{}: false, at("a", ""): false, at("", "x"): false, at("a", "x."): false, at("a", "-"): false, at("a\r\n", "x"): false, at("a\x00", "x"): false, at("\u00e9", "x"): false, at(many("a", 65), "x"): false, at("a", many("x", 65)): false,
	} {
		good(t, turned(func(r *api.Report) { r.To = a }), want)
		good(t, turned(func(r *api.Report) { r.Rcpt = a }), want)
	}
}

// P11.1: the status is an enhanced code that begins with 4 or 5.
func TestGoodStatus(t *testing.T) {
	for s, want := range map[string]bool{
		"4.0.0": true, "5.0.0": true, "4.2.2": true, "5.1.1": true, "5.7.100": true, "4.999.999": true,
		"2.0.0": false, "2.2.2": false, "0.0.0": false, "1.1.1": false, "3.1.1": false, "6.1.1": false, "9.1.1": false, "44.1.1": false, "40.1.1": false, "-4.1.1": false,
		"": false, "4": false, "4.": false, "4.1": false, "4.1.": false, "4..1": false, ".1.1": false, "4.1.1.1": false, "4.1.1.": false, " 4.1.1": false, "4.1.1 ": false, "4.01.1": false, "4.1.00": false, "4.1000.1": false, "4.1.1\r\n": false, "4.a.1": false, "4,1,1": false,
	} {
		good(t, turned(func(r *api.Report) { r.Status = s }), want)
	}
}

// P11.1: the reason is 1 to 200 bytes that may be told, without a blank at its ends.
func TestGoodReason(t *testing.T) {
	for s, want := range map[string]bool{
		"r": true, "a b": true, "a  b": true, "--ph-7-0": true, "because: x": true, "~": true, "!": true, many("r", 199): true, many("r", 200): true, "r" + many(" ", 198) + "r": true,
		"": false, " ": false, "  ": false, " r": false, "r ": false, " r ": false, many("r", 201): false, many("r", 199) + " ": false, " " + many("r", 199): false, many("r", 200) + " ": false, many("r", 100000): false, "\u00e9": false, "a\r\nb": false, "a\r\n b": false,
	} {
		good(t, turned(func(r *api.Report) { r.Reason = s }), want)
	}
	for v := range 256 {
		told := v >= 0x20 && v <= 0x7e
		good(t, turned(func(r *api.Report) { r.Reason = one(v) }), told && v != ' ')
		good(t, turned(func(r *api.Report) { r.Reason = one(v) + "x" }), told && v != ' ')
		good(t, turned(func(r *api.Report) { r.Reason = "x" + one(v) }), told && v != ' ')
		good(t, turned(func(r *api.Report) { r.Reason = "x" + one(v) + "x" }), told)
	}
}

// P11.1: the id is 1 to 20 letters and digits.
func TestGoodId(t *testing.T) {
	const signs = "0123456789ABCDEFGHIJKLMNOPQRSTUVWXYZabcdefghijklmnopqrstuvwxyz"
	for s, want := range map[string]bool{
		"7": true, "07": true, "aZ09": true, many("i", 19): true, many("i", 20): true, "99999999999999999999": true,
		"": false, many("i", 21): false, many("i", 100000): false, "a b": false, "a-b": false, "-": false, " 7": false, "7 ": false, "7\r\n": false, "\u0661": false, "\u00e9": false,
	} {
		good(t, turned(func(r *api.Report) { r.Id = s }), want)
	}
	for v := range 256 {
		for _, s := range []string{one(v), one(v) + "x", "x" + one(v), "x" + one(v) + "x"} {
			good(t, turned(func(r *api.Report) { r.Id = s }), strings.Contains(signs, one(v)))
		}
	}
}

// P11.1: both times are times.
func TestGoodTimes(t *testing.T) {
	for n, want := range map[int]bool{
		0: true, 1: true, 1 << 37: true, lastTime - 1: true, lastTime: true,
		-1: false, lastTime + 1: false, 1 << 52: false, math.MinInt: false, math.MinInt + 1: false, math.MaxInt: false,
	} {
		good(t, turned(func(r *api.Report) { r.Arrival = n }), want)
		good(t, turned(func(r *api.Report) { r.Now = n }), want)
	}
}

// plainHead tells whether that is a right report's head, by the chapter's words.
func plainHead(s string) bool {
	left := strings.ReplaceAll(s, "\r\n", "")
	return len(s) <= 32768 && !strings.ContainsAny(left, "\r\n") && (s == "" || strings.HasSuffix(s, "\r\n"))
}

// P11.1: the head is lines, each with its end, of any other bytes, and of at most MaxMsg bytes.
func TestGoodHead(t *testing.T) {
	for s, want := range map[string]bool{
		"": true, "\r\n": true, "\r\n\r\n": true, "a\r\n": true, "a\r\n\r\nb\r\n": true, "\x00\xff\t\r\n": true, "\u00e9\r\n": true, many("a", 5000) + "\r\n": true, many("\r\n", 16384): true, many("a", 32766) + "\r\n": true,
		"a": false, "\r": false, "\n": false, "a\r": false, "a\n": false, "a\r\nb": false, "a\nb\r\n": false, "a\rb\r\n": false, "a\r\r\n": false, "\n\r\n": false, "\r\n\n": false, "\r\n\r": false, "\n\r": false, "\r\n\r\r\n": false,
		many("a", 32767) + "\r\n": false, many("\r\n", 16385): false, many("\r\n", 16384) + "a": false, many("a", 32768): false, many("a", 1<<20) + "\r\n": false,
	} {
		if plainHead(s) != want {
			t.Errorf("plainHead(%.99q)", s)
		}
		good(t, turned(func(r *api.Report) { r.Head = []byte(s) }), want)
	}
	each([]string{"a", "\r", "\n", "\r\n"}, 6, func(s string) {
		good(t, turned(func(r *api.Report) { r.Head = []byte(s) }), plainHead(s))
	})
}

// P11.4: what is asked stays, and what lies behind a head's length is neither read nor written.
func TestGoodHandedInStays(t *testing.T) {
	whole := []byte("a\r\nb\r\n\r\n--ph-7-0\r\nc\n")
	was := string(whole)
	for n := range len(whole) + 1 {
		r := turned(func(r *api.Report) { r.Head = whole[:n] })
		asked := r
		good(t, r, plainHead(was[:n]))
		if string(whole) != was || !reflect.DeepEqual(r, asked) {
			t.Fatalf("%d bytes: left %q %s", n, whole, shown(r))
		}
	}
}
