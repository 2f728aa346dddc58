package cmd

import (
	"strings"
	"testing"

	"pigeonhole/addr"
	"pigeonhole/api"
)

// words are the verbs by their numbers.
func words() map[string]int {
	return map[string]int{"HELO": 1, "EHLO": 2, "LHLO": 3, "MAIL": 4, "RCPT": 5, "DATA": 6, "RSET": 7, "NOOP": 8, "QUIT": 9, "VRFY": 10, "HELP": 11}
}

// many is a text so often in a row.
func many(s string, n int) string {
	return strings.Repeat(s, n)
}

// one is the text of one byte, even if that is no rune.
func one(v int) string {
	return string([]byte{byte(v)})
}

// alnum are letters and digits.
const alnum = "ABCDEFGHIJKLMNOPQRSTUVWXYZabcdefghijklmnopqrstuvwxyz0123456789"

// ax is a mailbox that many lines name.
func ax() api.Addr {
	return api.Addr{Local: "a", Domain: "x"}
}

// command fails, unless a line is that command.
func command(t *testing.T, line string, want api.Cmd) {
	t.Helper()
	if c, code := Parse(line); c != want || code != 0 {
		t.Errorf("Parse(%.99q): %+v %d, not %+v", line, c, code, want)
	}
}

// refused fails, unless a line is answered by that code, and nothing beside it.
func refused(t *testing.T, line string, want int) {
	t.Helper()
	if c, code := Parse(line); c != (api.Cmd{}) || code != want {
		t.Errorf("Parse(%.99q): %+v %d, not %d", line, c, code, want)
	}
}

// answered fails, unless a line is a command, if ok, or is refused by that code.
func answered(t *testing.T, line string, ok bool, code int) {
	t.Helper()
	c, got := Parse(line)
	if ok && (c.Verb == 0 || got != 0) || !ok && (c != (api.Cmd{}) || got != code) {
		t.Errorf("Parse(%.99q): %+v %d, not %v", line, c, got, ok)
	}
}

// P6.1: verbs in letters great and small have their numbers; nothing else has one.
func TestVerb(t *testing.T) {
	for word, n := range words() {
		for _, s := range []string{word, strings.ToLower(word), word[:1] + strings.ToLower(word[1:]), strings.ToLower(word[:2]) + word[2:]} {
			if got := Verb(s); got != n {
				t.Errorf("Verb(%q): %d", s, got)
			}
		}
		for _, s := range []string{word + " ", " " + word, word + "X", word + word, word[:3], word[1:], word + "\x00", word + "\r\n", word + ":"} {
			if got := Verb(s); got != 0 {
				t.Errorf("Verb(%q): %d", s, got)
			}
		}
	}
	// The first ones have letters of which the great one is one of a verb's.
	for _, s := range []string{"r\u017fet", "R\u017fET", "qu\u0131t", "\u212a", "", " ", "\x00", "SEND", "STARTTLS", "AUTH", "\xff\xfe", "\u00e9", many("HELO", 20000)} {
		if got := Verb(s); got != 0 {
			t.Errorf("Verb(%.99q): %d", s, got)
		}
	}
}

// P6.1: each byte in each place of each verb.
func TestVerbEachByte(t *testing.T) {
	for word := range words() {
		for i := range word {
			for v := range 256 {
				s := word[:i] + one(v) + word[i+1:]
				want := 0
				if v < 0x80 {
					want = words()[strings.ToUpper(s)]
				}
				if got := Verb(s); got != want {
					t.Errorf("Verb(%q): %d, not %d", s, got, want)
				}
			}
		}
	}
}

// P6.2: commands without a path, and what they tell.
func TestParseArg(t *testing.T) {
	for line, want := range map[string]api.Cmd{
		"HELO x.org": {Verb: api.Helo, Arg: "x.org"}, "eHlO X.Org": {Verb: api.Ehlo, Arg: "X.Org"}, "lhlo 1": {Verb: api.Lhlo, Arg: "1"},
		"HELO [1.2.3.4]": {Verb: api.Helo, Arg: "[1.2.3.4]"}, "EHLO [IPv6:::1]": {Verb: api.Ehlo, Arg: "[IPv6:::1]"}, "LHLO [!~]": {Verb: api.Lhlo, Arg: "[!~]"}, "HELO [a@b]": {Verb: api.Helo, Arg: "[a@b]"},
		"EHLO " + many("x", 64): {Verb: api.Ehlo, Arg: many("x", 64)}, "EHLO [" + many("x", 503) + "]": {Verb: api.Ehlo, Arg: "[" + many("x", 503) + "]"},
		"DATA": {Verb: api.Data}, "rset": {Verb: api.Rset}, "Quit": {Verb: api.Quit},
		"NOOP": {Verb: api.Noop}, "NOOP ": {Verb: api.Noop}, "NOOP  ": {Verb: api.Noop, Arg: " "}, "noop a b ": {Verb: api.Noop, Arg: "a b "}, "NOOP " + many("~", 505): {Verb: api.Noop, Arg: many("~", 505)},
		"HELP": {Verb: api.Help}, "HELP ": {Verb: api.Help}, "HELP Mail": {Verb: api.Help, Arg: "Mail"}, "HELP  <a@x> SIZE=1": {Verb: api.Help, Arg: " <a@x> SIZE=1"},
		"VRFY a": {Verb: api.Vrfy, Arg: "a"}, "VRFY  ": {Verb: api.Vrfy, Arg: " "}, "vrfy <a b>\"\\": {Verb: api.Vrfy, Arg: "<a b>\"\\"},
	} {
		want.Size = -1
		command(t, line, want)
	}
}

// P6.2: commands with a path, and what they tell.
func TestParsePath(t *testing.T) {
	long := api.Addr{Local: many("a", 64), Domain: many("x", 64)}
	for line, want := range map[string]api.Cmd{
		"MAIL FROM:<a@x>":                                    {Verb: api.Mail, Path: ax(), Size: -1},
		"mail from:<a@x> size=5":                             {Verb: api.Mail, Path: ax(), Size: 5},
		"Mail fRoM:<A@X>":                                    {Verb: api.Mail, Path: api.Addr{Local: "A", Domain: "X"}, Size: -1},
		"MAIL FROM:<>":                                       {Verb: api.Mail, Null: true, Size: -1},
		"MAIL FROM:<> SIZE=0 BODY=8BITMIME":                  {Verb: api.Mail, Null: true, Body: 8},
		"MAIL FROM:<a@x> BODY=7BIT":                          {Verb: api.Mail, Path: ax(), Size: -1, Body: 7},
		"MAIL FROM:<a@x> bOdY=7bIt sIzE=12":                  {Verb: api.Mail, Path: ax(), Size: 12, Body: 7},
		"MAIL FROM:<a@x> body=8bitmime":                      {Verb: api.Mail, Path: ax(), Size: -1, Body: 8},
		"MAIL FROM:<@r.net,@s:a@x> SIZE=1":                   {Verb: api.Mail, Path: ax(), Size: 1},
		"MAIL FROM:<\"a> SIZE=2\"@x> SIZE=1":                 {Verb: api.Mail, Path: api.Addr{Local: "a> SIZE=2", Domain: "x"}, Size: 1},
		"MAIL FROM:<" + many("a", 64) + "@x>":                {Verb: api.Mail, Path: api.Addr{Local: many("a", 64), Domain: "x"}, Size: -1},
		"RCPT TO:<a@x>":                                      {Verb: api.Rcpt, Path: ax(), Size: -1},
		"rcpt to:<\"\\\" \"@x>":                              {Verb: api.Rcpt, Path: api.Addr{Local: "\" ", Domain: "x"}, Size: -1},
		"RCPT TO:<@r.net:a@x>":                               {Verb: api.Rcpt, Path: ax(), Size: -1},
		"RCPT TO:<" + many("a", 64) + "@x-1.org>":            {Verb: api.Rcpt, Path: api.Addr{Local: many("a", 64), Domain: "x-1.org"}, Size: -1},
		"RCPT TO:<" + long.Local + "@" + many("x", 64) + ">": {Verb: api.Rcpt, Path: long, Size: -1},
	} {
		command(t, line, want)
	}
}

// P6.2: 500 of what is too long, has other bytes, or has no verb, whatever else is wrong with it.
func TestParseNoVerb(t *testing.T) {
	for _, line := range []string{
		"", " ", "  ", "FOO", "FOO x", "STARTTLS", " DATA", " MAIL FROM:<a@x>", "DATAX", "DAT", "DATA:", "MAILFROM:<a@x>", "MAIL-FROM:<a@x>", "RCPTTO:<a@x>", "HELO\tx", "HELO,x", "<a@x>", "500",
		"NOOP " + many("a", 506), many("a", 511), "HELO" + many("x", 600), "MAIL FROM:<a@x>" + many(" ", 500), "RCPT " + many("a", 506), "DATA" + many(" ", 507), many("NOOP ", 20000),
		"DATA\r\n", "DATA\n", "DATA\r", "\r\nDATA", "NOOP \x1f", "NOOP \x7f", "NOOP \u00e9", "NOOP a\x00b", "VRFY \xff", "MAIL FROM:<a@x> FOO \x01", "MAIL FROM:<\u00e9@x>", "R\u017fET", "\x00",
	} {
		refused(t, line, 500)
	}
	command(t, "NOOP "+many("a", 505), api.Cmd{Verb: api.Noop, Arg: many("a", 505), Size: -1})
	refused(t, "RCPT "+many("a", 505), 501)
}

// P6.2: a line has bytes from 20 to 7e, wherever they stand.
func TestParseEachByte(t *testing.T) {
	for v := range 256 {
		b := one(v)
		for _, s := range []string{b, "a" + b, b + "a", "a" + b + "a"} {
			if v >= 0x20 && v <= 0x7e {
				command(t, "NOOP "+s, api.Cmd{Verb: api.Noop, Arg: s, Size: -1})
				command(t, "HELP "+s, api.Cmd{Verb: api.Help, Arg: s, Size: -1})
				command(t, "VRFY "+s, api.Cmd{Verb: api.Vrfy, Arg: s, Size: -1})
			} else {
				refused(t, "NOOP "+s, 500)
				refused(t, "RCPT "+s, 500)
				refused(t, s, 500)
			}
		}
		code := 501
		if v < 0x20 || v > 0x7e {
			code = 500
		}
		for _, greet := range []string{"HELO ", "EHLO ", "LHLO "} {
			answered(t, greet+"["+b+"]", v > 0x20 && v < 0x7f && !strings.Contains("[]\\", b), code)
			answered(t, greet+"[x"+b+"y]", v > 0x20 && v < 0x7f && !strings.Contains("[]\\", b), code)
			answered(t, greet+b, strings.Contains(alnum, b), code)
			answered(t, greet+"x"+b+"y", strings.Contains(alnum+"-.", b), code)
		}
	}
}

// P6.2: 501 of what has a verb, but isn't of that verb's form.
func TestParseForm(t *testing.T) {
	for _, greet := range []string{"HELO", "EHLO", "lhlo"} {
		for _, s := range []string{
			"", " ", "  x", " x ", " a b", " x.", " .x", " a..b", " -x", " x-", " x_y", " <x>", " " + many("x", 65), " " + many("x.", 32) + "x",
			" []", " [", " ]", " [a", " a]", " [[a]", " [a]]", " [a[b]", " [a]b]", " [a\\b]", " [\\]", " [a b]", " [ ]", " [a] ", " x[a]", " [a]x", " [a][b]", " a [b]",
		} {
			refused(t, greet+s, 501)
		}
	}
	for _, word := range []string{"DATA", "rset", "Quit"} {
		for _, s := range []string{" ", "  ", " x", " " + word} {
			refused(t, word+s, 501)
		}
	}
	for _, line := range []string{"VRFY", "VRFY ", "vrfy"} {
		refused(t, line, 501)
	}
}

// P6.2: 501 of what isn't a mark and a path.
func TestParsePathForm(t *testing.T) {
	for verb, sign := range map[string]string{"MAIL": "FROM:", "RCPT": "TO:"} {
		for _, s := range []string{
			"", " ", " " + sign, " " + sign[:len(sign)-1], " <a@x>", " " + sign + " <a@x>", "  " + sign + "<a@x>", " " + sign[:len(sign)-1] + "<a@x>", " " + sign[1:] + "<a@x>", " " + sign[:len(sign)-1] + " :<a@x>", " " + sign + sign + "<a@x>",
			" " + sign + "a@x", " " + sign + "<a@x", " " + sign + "a@x>", " " + sign + "<<a@x>>", " " + sign + "<a>", " " + sign + "<@x>", " " + sign + "<a@>", " " + sign + "<a..b@x>", " " + sign + "<a@[1.2.3.4]>", " " + sign + "<a b@x>", " " + sign + "< >", " " + sign + "<", " " + sign + "<@r:>", " " + sign + "<\"\"@x>", " " + sign + "<postmaster>",
			" " + sign + "<" + many("a", 65) + "@x>", " " + sign + "<a@" + many("x", 65) + ">", " " + sign + "<@" + many("r", 65) + ":a@x>", " " + sign + "<" + many("a", 65) + "@x> FOO",
			" " + sign + " FOO", " " + sign + "<a@x FOO", " " + sign + "<a@x>>", " " + sign + "<a@x>FOO", " " + sign + "<a@x>=1", " " + sign + "<a@x><b@x>", " " + sign + "<a@x>,<b@x>", " " + sign + "<a@x>SIZE=1 FOO",
		} {
			refused(t, verb+s, 501)
		}
	}
	for _, line := range []string{"RCPT FROM:<a@x>", "MAIL TO:<a@x>", "RCPT TO:<>", "RCPT TO:<> FOO", "MAIL FROM:<>x", "MAIL FROM:<><a@x>"} {
		refused(t, line, 501)
	}
}

// cases are commands, and how they are written.
func cases() map[api.Cmd]string {
	return map[api.Cmd]string{
		{Verb: api.Helo, Arg: "X.org", Size: -1}: "HELO X.org", {Verb: api.Ehlo, Arg: "[1.2.3.4]", Size: -1}: "EHLO [1.2.3.4]", {Verb: api.Lhlo, Arg: "a", Size: -1}: "LHLO a",
		{Verb: api.Data, Size: -1}: "DATA", {Verb: api.Rset, Size: -1}: "RSET", {Verb: api.Quit, Size: -1}: "QUIT", {Verb: api.Noop, Size: -1}: "NOOP", {Verb: api.Help, Size: -1}: "HELP",
		{Verb: api.Noop, Arg: "a  b ", Size: -1}: "NOOP a  b ", {Verb: api.Noop, Arg: " ", Size: -1}: "NOOP  ", {Verb: api.Help, Arg: "mail", Size: -1}: "HELP mail", {Verb: api.Vrfy, Arg: " ", Size: -1}: "VRFY  ", {Verb: api.Vrfy, Arg: "<a@x>", Size: -1}: "VRFY <a@x>",
		{Verb: api.Noop, Arg: many("a", 505), Size: -1}:                                 "NOOP " + many("a", 505),
		{Verb: api.Mail, Path: ax(), Size: -1}:                                          "MAIL FROM:<a@x>",
		{Verb: api.Mail, Null: true, Size: -1}:                                          "MAIL FROM:<>",
		{Verb: api.Mail, Null: true, Body: 7}:                                           "MAIL FROM:<> SIZE=0 BODY=7BIT",
		{Verb: api.Mail, Null: true, Size: -1, Body: 8}:                                 "MAIL FROM:<> BODY=8BITMIME",
		{Verb: api.Mail, Path: api.Addr{Local: "a b", Domain: "x"}, Size: 10, Body: 8}:  "MAIL FROM:<\"a b\"@x> SIZE=10 BODY=8BITMIME",
		{Verb: api.Mail, Path: api.Addr{Local: "> SIZE=1", Domain: "X"}, Size: 1 << 53}: "MAIL FROM:<\"> SIZE=1\"@X> SIZE=9007199254740992",
		{Verb: api.Mail, Path: api.Addr{Local: many("\"", 64), Domain: many("x", 64)}}:  "MAIL FROM:<\"" + many("\\\"", 64) + "\"@" + many("x", 64) + "> SIZE=0",
		{Verb: api.Rcpt, Path: ax(), Size: -1}:                                          "RCPT TO:<a@x>",
		{Verb: api.Rcpt, Path: api.Addr{Local: "\"\\", Domain: "x"}, Size: -1}:          "RCPT TO:<\"\\\"\\\\\"@x>",
		{Verb: api.Rcpt, Path: api.Addr{Local: "A.b", Domain: "X.Org"}, Size: -1}:       "RCPT TO:<A.b@X.Org>",
	}
}

// P6.3: commands as they are written, and read again.
func TestText(t *testing.T) {
	for c, want := range cases() {
		if line, e := Text(c); line != want || e != api.OK {
			t.Errorf("Text(%+v): %.99q %d", c, line, e)
		}
		command(t, want, c)
	}
}

// P6.3: a command with a field that its verb hasn't, or that can't be, is refused.
func TestTextForeign(t *testing.T) {
	for c := range cases() {
		pathed := c.Verb == api.Mail || c.Verb == api.Rcpt
		free := c.Verb == api.Noop || c.Verb == api.Help || c.Verb == api.Vrfy
		for what, change := range map[string]func(c *api.Cmd) bool{
			"an argument":     func(c *api.Cmd) bool { c.Arg = "x y"; return !free },
			"a line's end":    func(c *api.Cmd) bool { c.Arg += "\n"; return true },
			"a path":          func(c *api.Cmd) bool { c.Path = ax(); return !pathed || c.Null },
			"a half path":     func(c *api.Cmd) bool { c.Path.Domain = ""; c.Path.Local = "a"; return true },
			"Null turned":     func(c *api.Cmd) bool { c.Null = !c.Null; return true },
			"a size":          func(c *api.Cmd) bool { c.Size = 0; return c.Verb != api.Mail },
			"a size below -1": func(c *api.Cmd) bool { c.Size = -2; return true },
			"a body":          func(c *api.Cmd) bool { c.Body = 7; return c.Verb != api.Mail },
			"no such body":    func(c *api.Cmd) bool { c.Body = 9; return true },
		} {
			d := c
			if !change(&d) {
				continue
			}
			if line, e := Text(d); line != "" || e != api.ErrForm {
				t.Errorf("%s: Text(%+v): %.99q %d", what, d, line, e)
			}
		}
	}
}

// P6.3: ErrKind of what is no verb, whatever else it has; ErrForm of what is no such command.
func TestTextRefuses(t *testing.T) {
	for _, verb := range []int{0, -1, 12, 13, 256 + 1, 1 << 32, 1<<32 + 1, -1 << 63, 1<<63 - 1} {
		for _, c := range []api.Cmd{{}, {Size: -1}, {Arg: "x", Size: -1}, {Path: ax(), Size: -1}, {Path: api.Addr{Local: "\x00"}, Size: -5, Body: 3}} {
			c.Verb = verb
			if line, e := Text(c); line != "" || e != api.ErrKind {
				t.Errorf("Text(%+v): %q %d", c, line, e)
			}
		}
	}
	for _, c := range []api.Cmd{
		{Verb: api.Data}, {Verb: api.Noop}, {Verb: api.Rcpt, Path: ax()}, {Verb: api.Data, Size: -1, Arg: "x"}, {Verb: api.Quit, Size: -1, Arg: " "}, {Verb: api.Rset, Size: 1 << 53},
		{Verb: api.Helo, Size: -1}, {Verb: api.Ehlo, Size: -1, Arg: "a b"}, {Verb: api.Lhlo, Size: -1, Arg: "[]"}, {Verb: api.Helo, Size: -1, Arg: " x"}, {Verb: api.Helo, Size: -1, Arg: "x\r\nDATA"}, {Verb: api.Vrfy, Size: -1},
		{Verb: api.Noop, Size: -1, Arg: many("a", 506)}, {Verb: api.Noop, Size: -1, Arg: "\x7f"}, {Verb: api.Help, Size: -1, Arg: "\u00e9"}, {Verb: api.Vrfy, Size: -1, Arg: many("a", 70000)},
		{Verb: api.Mail, Size: -1}, {Verb: api.Mail, Size: -1, Null: true, Path: ax()}, {Verb: api.Mail, Size: -1, Path: ax(), Arg: "x"}, {Verb: api.Mail, Size: -1, Path: ax(), Arg: "FROM:<a@x>"}, {Verb: api.Rcpt, Size: -1, Null: true}, {Verb: api.Rcpt, Size: -1}, {Verb: api.Rcpt, Size: 0, Path: ax()}, {Verb: api.Rcpt, Size: -1, Body: 7, Path: ax()},
		{Verb: api.Mail, Size: -2, Null: true}, {Verb: api.Mail, Size: 1<<53 + 1, Null: true}, {Verb: api.Mail, Size: 1<<63 - 1, Null: true}, {Verb: api.Mail, Size: -1 << 63, Null: true},
		{Verb: api.Mail, Size: -1, Null: true, Body: 1}, {Verb: api.Mail, Size: -1, Null: true, Body: -1}, {Verb: api.Mail, Size: -1, Null: true, Body: 9}, {Verb: api.Mail, Size: -1, Null: true, Body: 256 + 7},
		{Verb: api.Mail, Size: -1, Path: api.Addr{Local: "a"}}, {Verb: api.Mail, Size: -1, Path: api.Addr{Domain: "x"}}, {Verb: api.Mail, Size: -1, Path: api.Addr{Local: "a\n", Domain: "x"}}, {Verb: api.Mail, Size: -1, Path: api.Addr{Local: "a", Domain: "x> SIZE=1"}}, {Verb: api.Rcpt, Size: -1, Path: api.Addr{Local: many("a", 65), Domain: "x"}}, {Verb: api.Rcpt, Size: -1, Path: api.Addr{Local: "a", Domain: "x-"}},
	} {
		if line, e := Text(c); line != "" || e != api.ErrForm {
			t.Errorf("Text(%+v): %.99q %d", c, line, e)
		}
	}
}

// P6.3: each byte as an argument and in a path: what is written is read as it was, all else refused.
func TestTextEachByte(t *testing.T) {
	for v := range 256 {
		b := one(v)
		told := v >= 0x20 && v <= 0x7e
		path := api.Addr{Local: b, Domain: "x"}
		written, _ := addr.Path(path)
		for want, c := range map[string]api.Cmd{
			"NOOP " + b: {Verb: api.Noop, Arg: b, Size: -1}, "VRFY a" + b: {Verb: api.Vrfy, Arg: "a" + b, Size: -1}, "HELP " + b + "a": {Verb: api.Help, Arg: b + "a", Size: -1},
			"MAIL FROM:" + written + " SIZE=7": {Verb: api.Mail, Path: path, Size: 7}, "RCPT TO:" + written: {Verb: api.Rcpt, Path: path, Size: -1},
		} {
			line, e := Text(c)
			if told && (line != want || e != api.OK) || !told && (line != "" || e != api.ErrForm) {
				t.Errorf("Text(%+v): %q %d", c, line, e)
			}
			if told {
				command(t, line, c)
			}
		}
	}
}
