package cmd

import (
	"math/big"
	"math/rand"
	"regexp"
	"strings"
	"testing"

	"pigeonhole/api"
)

// withParams is Mail's command of a@x with that size and body.
func withParams(size, body int) api.Cmd {
	return api.Cmd{Verb: api.Mail, Path: ax(), Size: size, Body: body}
}

// P6.2: SIZE has 1 to 20 decimal digits, and is a number up to 2^53.
func TestSize(t *testing.T) {
	for s, want := range map[string]int{
		"0": 0, "1": 1, "00": 0, "007": 7, "32769": 32769, "9007199254740991": 1<<53 - 1, "9007199254740992": 1 << 53, many("0", 20): 0, many("0", 19) + "5": 5, "00009007199254740992": 1 << 53,
	} {
		command(t, "MAIL FROM:<a@x> SIZE="+s, withParams(want, 0))
	}
	// The ones from 2^63 on would be small numbers, if 64 bits held them.
	for _, s := range []string{
		"9007199254740993", "9007199254740994", "9223372036854775807", "9223372036854775808", "9223372036854775809", "18446744073709551615", "18446744073709551616", "18446744073709551617", "99999999999999999999", "36893488147419103233",
		many("0", 21), many("0", 20) + "1", "1" + many("0", 20), many("9", 400), many("0", 400),
		"x", "1x", "x1", "-1", "+1", "-0", "1.0", "1e3", "0x1", "1_0", "_1", "1,0", "one", "<1>", "\"1\"",
	} {
		refused(t, "MAIL FROM:<a@x> SIZE="+s, 501)
	}
	for _, s := range []string{"SIZE", "size", "SIZE=", "SIZE==1", "SIZE=1=", "SIZE=1=1", "SIZE= 1", "SIZE =1"} {
		refused(t, "MAIL FROM:<a@x> "+s, 501)
	}
	refused(t, "MAIL FROM:<a@x> SIZE:1", 501)
	refused(t, "MAIL FROM:<a@x> SIZE1", 555)
	refused(t, "MAIL FROM:<a@x> SIZES=1", 555)
}

// P6.2: BODY is 7BIT or 8BITMIME.
func TestBody(t *testing.T) {
	for s, want := range map[string]int{"7BIT": 7, "7bit": 7, "7BiT": 7, "8BITMIME": 8, "8bitmime": 8, "8BitMime": 8} {
		for _, name := range []string{"BODY=", "body=", "Body="} {
			command(t, "MAIL FROM:<a@x> "+name+s, withParams(-1, want))
		}
	}
	for _, s := range []string{"BODY", "BODY=", "BODY=7", "BODY=8", "BODY=0", "BODY=8BIT", "BODY=7BITMIME", "BODY=BINARYMIME", "BODY=7BITS", "BODY=7BIT=", "BODY==7BIT", "BODY=7 BIT", "BODY=\"7BIT\"", "BODY=07BIT"} {
		refused(t, "MAIL FROM:<a@x> "+s, 501)
	}
	refused(t, "MAIL FROM:<a@x> BODYS=7BIT", 555)
}

// P6.2: parameters one by one: the first that is at fault is answered, and of it the form and its being there ahead of its name, and that ahead of its value.
func TestParams(t *testing.T) {
	for s, want := range map[string]api.Cmd{
		"": withParams(-1, 0), " SIZE=1": withParams(1, 0), " SIZE=1 BODY=7BIT": withParams(1, 7), " BODY=8BITMIME SIZE=2": withParams(2, 8),
	} {
		command(t, "MAIL FROM:<a@x>"+s, want)
	}
	for s, code := range map[string]int{
		" ": 501, "  ": 501, "  SIZE=1": 501, " SIZE=1 ": 501, " SIZE=1  BODY=7BIT": 501, " SIZE=1 BODY=7BIT ": 501, "SIZE=1": 501, "FOO": 501,
		" =": 501, " =1": 501, " ==": 501, " FOO=": 501, " FOO==": 501, " FOO=1=2": 501, " FOO==1": 501, " F_O": 501, " F.O=1": 501, " FOO:1": 501, " <b@x>": 501, " FOO,BAR": 501, " F/": 501, " F@": 501, " F[": 501, " F`": 501, " F{": 501,
		" FOO": 555, " foo=1": 555, " -": 555, " --": 555, " 1": 555, " F-O": 555, " F-=-": 555, " FOO=!~": 555, " FOO=<a@x>": 555, " FOO=\"\\": 555, " AUTH=<>": 555, " RET=HDRS": 555, " SIZ=1": 555, " IZE=1": 555, " SMTPUTF8": 555, " S": 555,
		" SIZE=1 size=2": 501, " size=1 SIZE=1": 501, " BODY=7BIT body=7BIT": 501, " Size=1 BODY=7BIT sIZE=1": 501, " SIZE=1 SIZE": 501, " SIZE=1 SIZE=x": 501, " SIZE=1 SIZE=": 501,
		" SIZE=x SIZE=1": 501, " SIZE=1 FOO": 555, " FOO SIZE=x": 555, " SIZE=x FOO": 501, " FOO FOO": 555, " FOO BAR=": 555, " BAR= FOO": 501, " BODY=8 FOO": 501, " FOO BODY=8": 555, " FOO  ": 555, " SIZE FOO": 501, " FOO ": 555, " SIZE=1 FOO SIZE=2": 555, " SIZE=1 SIZE=2 FOO": 501,
	} {
		refused(t, "MAIL FROM:<a@x>"+s, code)
		refused(t, "MAIL FROM:<>"+s, code)
	}
}

// P6.2: Rcpt's parameters have the same form, and none is known.
func TestParamsRcpt(t *testing.T) {
	for s, code := range map[string]int{
		" X": 555, " x=1": 555, " SIZE=1": 555, " SIZE": 555, " SIZE=x": 555, " BODY=7BIT": 555, " NOTIFY=NEVER": 555, " ORCPT=rfc822;a@x": 555, " X X": 555, " X Y=": 555, " SIZE=1 SIZE=1": 555,
		" ": 501, "  X": 501, "X": 501, " X=": 501, " =X": 501, " X=1=2": 501, " X=1=": 501, " X_": 501, " SIZE=": 501, " SIZE==": 501, " X= Y": 501,
	} {
		refused(t, "RCPT TO:<a@x>"+s, code)
	}
}

// P6.2: each byte in a parameter's name and in its value.
func TestParamsEachByte(t *testing.T) {
	for v := 0x20; v <= 0x7e; v++ {
		b := one(v)
		for s, form := range map[string]bool{" X" + b + "Y": strings.Contains(alnum+"-=", b) || b == " ", " X=" + b: b != "=" && b != " ", " X=Y" + b + "Z": b != "=", " " + b: strings.Contains(alnum+"-", b), " " + b + "=1": strings.Contains(alnum+"-", b)} {
			code := 501
			if form {
				code = 555
			}
			refused(t, "MAIL FROM:<a@x>"+s, code)
			refused(t, "RCPT TO:<a@x>"+s, code)
		}
	}
}

// plainLabel is a label by the chapter's words.
const plainLabel = "[A-Za-z0-9](?:[A-Za-z0-9-]*[A-Za-z0-9])?"

// The form by the chapter's words, of lines with bytes from 20 to 7e.
var (
	plainVerb  = regexp.MustCompile("(?i)^(HELO|EHLO|LHLO|MAIL|RCPT|DATA|RSET|NOOP|QUIT|VRFY|HELP)( .*)?$")
	plainGreet = regexp.MustCompile("^ (?:" + plainLabel + "(?:\\." + plainLabel + ")*|\\[[!-Z^-~]+\\])$")
	plainFrom  = regexp.MustCompile("(?i)^ FROM:(<>|<a@x>|<\"a b\"@x>)(.*)$")
	plainTo    = regexp.MustCompile("(?i)^ TO:(<a@x>|<\"a b\"@x>)(.*)$")
	plainParam = regexp.MustCompile("^([A-Za-z0-9-]+)(=[!-<>-~]+)?$")
	plainSize  = regexp.MustCompile("^=([0-9]{1,20})$")
)

// plainParams is the code of a command's parameters.
func plainParams(c *api.Cmd, s string) int {
	if s == "" {
		return 0
	}
	if s[0] != ' ' {
		return 501
	}
	size, body := -1, 0
	for _, p := range strings.Split(s[1:], " ") {
		m := plainParam.FindStringSubmatch(p)
		if m == nil || strings.EqualFold(m[1], "size") && size != -1 || strings.EqualFold(m[1], "body") && body != 0 {
			return 501
		}
		n, most := new(big.Int), new(big.Int).Exp(big.NewInt(2), big.NewInt(53), nil)
		if digits := plainSize.FindStringSubmatch(m[2]); digits != nil {
			n.SetString(digits[1], 10)
		} else {
			n.SetInt64(-1)
		}
		switch name := strings.ToLower(m[1]); {
		case c.Verb == api.Rcpt || name != "size" && name != "body":
			return 555
		case name == "size" && n.Sign() >= 0 && n.Cmp(most) <= 0:
			size = int(n.Int64())
		case name == "body" && strings.EqualFold(m[2], "=7bit"):
			body = 7
		case name == "body" && strings.EqualFold(m[2], "=8bitmime"):
			body = 8
		default:
			return 501
		}
	}
	c.Size, c.Body = size, body
	return 0
}

// plainParse is a line's command, or code.
func plainParse(s string) (api.Cmd, int) {
	m := plainVerb.FindStringSubmatch(s)
	if len(s) > 510 || m == nil {
		return api.Cmd{}, 500
	}
	c := api.Cmd{Verb: words()[strings.ToUpper(m[1])], Size: -1}
	rest, path := m[2], map[int]*regexp.Regexp{api.Mail: plainFrom, api.Rcpt: plainTo}[c.Verb]
	switch {
	case path != nil:
		p := path.FindStringSubmatch(rest)
		if p == nil {
			return api.Cmd{}, 501
		}
		c.Null = p[1] == "<>"
		c.Path = map[string]api.Addr{"<>": {}, "<a@x>": ax(), "<\"a b\"@x>": {Local: "a b", Domain: "x"}}[p[1]]
		if code := plainParams(&c, p[2]); code != 0 {
			return api.Cmd{}, code
		}
	case c.Verb <= api.Lhlo && !plainGreet.MatchString(rest),
		(c.Verb == api.Data || c.Verb == api.Rset || c.Verb == api.Quit) && rest != "",
		c.Verb == api.Vrfy && len(rest) < 2:
		return api.Cmd{}, 501
	default:
		c.Arg = strings.TrimPrefix(rest, " ")
	}
	return c, 0
}

// each calls with all texts of up to n of these pieces.
func each(pieces []string, n int, call func(s string)) {
	call("")
	if n == 0 {
		return
	}
	for _, p := range pieces {
		each(pieces, n-1, func(s string) { call(p + s) })
	}
}

// same fails, unless a line is what the chapter's words make of it, and what is a command is written and read as it was.
func same(t *testing.T, line string) {
	t.Helper()
	want, wrong := plainParse(line)
	c, code := Parse(line)
	if c != want || code != wrong {
		t.Fatalf("Parse(%q): %+v %d, not %+v %d", line, c, code, want, wrong)
	}
	if code != 0 {
		return
	}
	if s, e := Text(c); e != api.OK {
		t.Fatalf("Text(%+v): %d", c, e)
	} else if d, code := Parse(s); d != c || code != 0 {
		t.Fatalf("%q, %q: %+v %d, not %+v", line, s, d, code, c)
	}
}

// P6.2, P6.3: all lines of few pieces are what the chapter's words make of them.
func TestAllShort(t *testing.T) {
	each([]string{" ", "SIZE", "body", "=", "1", "8BitMime", "X", "-"}, 5, func(s string) {
		same(t, "mail FROM:<a@x>"+s)
		same(t, "RCPT to:<a@x>"+s)
	})
	each([]string{"MAIL", "rcpt", " ", "from:", "TO:", "<>", "<a@x>", "<\"a b\"@x>", "FROM", ":", " SIZE=2"}, 4, func(s string) { same(t, s) })
	for word := range words() {
		each([]string{" ", "a", "-", ".", "[", "]", "\\"}, 5, func(s string) { same(t, word+s) })
	}
}

// P6.2, P6.3: drawn lines of many pieces, too.
func TestDrawn(t *testing.T) {
	r := rand.New(rand.NewSource(6))
	pieces := []string{" SIZE=", " size=", " BODY=", " Body=", "7BIT", "8bitmime", "0", "1", "00000", "9", " X", "=", " ", "-", " BODY=7BIT", " SIZE=5", "~"}
	for range 20000 {
		line := []string{"MAIL FROM:<a@x>", "mail from:<>", "RCPT TO:<a@x>", "Mail From:<\"a b\"@x>"}[r.Intn(4)]
		for range r.Intn(8) {
			line += pieces[r.Intn(len(pieces))]
		}
		same(t, line)
	}
}
