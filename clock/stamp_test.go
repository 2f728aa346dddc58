package clock

import (
	"regexp"
	"slices"
	"strconv"
	"strings"
	"testing"
	"time"
)

// layout is what a stamp looks like, as the library has it.
const layout = "Mon, 02 Jan 2006 15:04:05 +0000"

// plainStamp is a time's stamp, as the library has it.
func plainStamp(n int) string {
	return time.Unix(int64(n), 0).UTC().Format(layout)
}

// plainForm is what a stamp looks like, by the chapter's words.
var plainForm = regexp.MustCompile(`\A(Mon|Tue|Wed|Thu|Fri|Sat|Sun), ([0-9]{2}) (Jan|Feb|Mar|Apr|May|Jun|Jul|Aug|Sep|Oct|Nov|Dec) ([0-9]{4}) ([0-9]{2}):([0-9]{2}):([0-9]{2}) \+0000\z`)

// plainMonths are the months' names.
var plainMonths = []string{"Jan", "Feb", "Mar", "Apr", "May", "Jun", "Jul", "Aug", "Sep", "Oct", "Nov", "Dec"}

// plainParse is the time whose stamp a text is, by the chapter's words.
func plainParse(s string) (int, bool) {
	m := plainForm.FindStringSubmatch(s)
	if m == nil {
		return 0, false
	}
	v := [8]int{}
	for i := range v {
		v[i], _ = strconv.Atoi(m[i])
	}
	month := slices.Index(plainMonths, m[3]) + 1
	if !within(v[4], 1970, 9999) || !within(v[2], 1, plainDays(v[4], month)) || v[5] > 23 || v[6] > 59 || v[7] > 59 {
		return 0, false
	}
	d := time.Date(v[4], time.Month(month), v[2], v[5], v[6], v[7], 0, time.UTC)
	return int(d.Unix()), d.Weekday().String()[:3] == m[1]
}

// stamped fails, unless a time has a stamp, and that one tells it again.
func stamped(t *testing.T, n int, want string) {
	t.Helper()
	if s, ok := Stamp(n); s != want || !ok {
		t.Fatalf("Stamp(%d): %q %v, not %q", n, s, ok, want)
	}
	if m, ok := Parse(want); m != n || !ok {
		t.Fatalf("Parse(%q): %d %v, not %d", want, m, ok, n)
	}
}

// parsed fails, unless a text tells the time that the chapter's words tell, or none.
func parsed(t *testing.T, s string) {
	t.Helper()
	want, is := plainParse(s)
	if !is {
		want = 0
	}
	if n, ok := Parse(s); n != want || ok != is {
		t.Fatalf("Parse(%.99q): %d %v, not %d %v", s, n, ok, want, is)
	}
}

// P9.3: stamps that are known, those of the examples among them; each day of the week and each month.
func TestStampKnown(t *testing.T) {
	for n, want := range map[int]string{
		0:          "Thu, 01 Jan 1970 00:00:00 +0000",
		86400:      "Fri, 02 Jan 1970 00:00:00 +0000",
		951782399:  "Mon, 28 Feb 2000 23:59:59 +0000",
		951782400:  "Tue, 29 Feb 2000 00:00:00 +0000",
		951868800:  "Wed, 01 Mar 2000 00:00:00 +0000",
		955584000:  "Thu, 13 Apr 2000 00:00:00 +0000",
		958780799:  "Fri, 19 May 2000 23:59:59 +0000",
		960552000:  "Fri, 09 Jun 2000 12:00:00 +0000",
		964266309:  "Sat, 22 Jul 2000 11:45:09 +0000",
		966733261:  "Sun, 20 Aug 2000 01:01:01 +0000",
		1031011200: "Tue, 03 Sep 2002 00:00:00 +0000",
		1034553600: "Mon, 14 Oct 2002 00:00:00 +0000",
		1763251200: "Sun, 16 Nov 2025 00:00:00 +0000",
		4107542400: "Mon, 01 Mar 2100 00:00:00 +0000",
		last:       "Fri, 31 Dec 9999 23:59:59 +0000",
	} {
		stamped(t, n, want)
	}
}

// P9.3: what is no time has no stamp.
func TestStampOutside(t *testing.T) {
	for _, n := range outside {
		if s, ok := Stamp(n); s != "" || ok {
			t.Errorf("Stamp(%d): %q %v", n, s, ok)
		}
	}
}

// P9.3, P9.4: times far apart, and each second of a day, have their stamps, which tell them again.
func TestStampFar(t *testing.T) {
	for n := 0; n <= last; n += 1299709 {
		stamped(t, n, plainStamp(n))
	}
	for i := range 86400 {
		stamped(t, 951782400+i, plainStamp(951782400+i))
	}
	for i := range 86400 / 7 {
		stamped(t, last-7*i, plainStamp(last-7*i))
	}
}

// P9.3, P9.4: a day later is the next day of the week, over the years that have odd leaps, and at the end.
func TestStampDays(t *testing.T) {
	const weeks = "MonTueWedThuFriSatSun"
	for _, first := range []int{0, 946684800, 4102444800, last - 366*86400 + 1} {
		for i := range 365 {
			a, is := Stamp(first + 86400*i)
			b, ok := Stamp(first + 86400*(i+1))
			at := strings.Index(weeks, a[:3])
			if want := (weeks + weeks)[at+3 : at+6]; b[:3] != want || !is || !ok {
				t.Fatalf("%q behind %q", b, a)
			}
		}
	}
}

// P9.3: what is no stamp tells no time.
func TestParseNone(t *testing.T) {
	for _, s := range []string{
		"", " ", "Thu", "Thu, ", "0", strings.Repeat(" ", 31), strings.Repeat("0", 31), strings.Repeat("\x00", 31), strings.Repeat("\xff", 31), strings.Repeat("9", 100000),
		"Fri, 01 Jan 1970 00:00:00 +0000", "thu, 01 Jan 1970 00:00:00 +0000", "THU, 01 Jan 1970 00:00:00 +0000", "Thursday, 01 Jan 1970 00:00:00 +0000", "Thu 01 Jan 1970 00:00:00 +0000", "Thu,01 Jan 1970 00:00:00 +0000", "huF, 01 Jan 1970 00:00:00 +0000", "01 Jan 1970 00:00:00 +0000",
		"Thu, 1 Jan 1970 00:00:00 +0000", "Thu,  1 Jan 1970 00:00:00 +0000", "Thu, +1 Jan 1970 00:00:00 +0000", "Thu, 001 Jan 1970 00:00:00 +0000", "Wed, 00 Jan 1970 00:00:00 +0000", "Thu, 00 Jan 1970 00:00:00 +0000", "Sun, 32 Jan 1971 00:00:00 +0000", "Mon, 32 Jan 1971 00:00:00 +0000", "Wed, -1 Jan 1970 00:00:00 +0000",
		"Thu, 01 jan 1970 00:00:00 +0000", "Thu, 01 JAN 1970 00:00:00 +0000", "Thu, 01 January 1970 00:00:00 +0000", "Thu, 01 anF 1970 00:00:00 +0000", "Thu, 01 001 1970 00:00:00 +0000", "Thu, 01 Xxx 1970 00:00:00 +0000", "Sun, 01 anF 1970 00:00:00 +0000",
		"Wed, 01 Jan 1969 00:00:00 +0000", "Wed, 31 Dec 1969 23:59:59 +0000", "Thu, 01 Jan 70 00:00:00 +0000", "Thu, 01 Jan 0070 00:00:00 +0000", "Sat, 01 Jan 10000 00:00:00 +0000", "Sat, 01 Jan 0000 00:00:00 +0000", "Thu, 01 Jan +197 00:00:00 +0000", "Thu, 01 Jan 1970  0:00:00 +0000",
		"Mon, 29 Feb 2100 00:00:00 +0000", "Sun, 29 Feb 2100 00:00:00 +0000", "Thu, 29 Feb 2001 00:00:00 +0000", "Wed, 30 Feb 2000 00:00:00 +0000", "Mon, 31 Apr 2000 00:00:00 +0000", "Tue, 29 Feb 2000 00:00:00 +0001", "Mon, 29 Feb 2000 00:00:00 +0000", "Wed, 29 Feb 2000 00:00:00 +0000",
		"Thu, 01 Jan 1970 24:00:00 +0000", "Fri, 01 Jan 1970 24:00:00 +0000", "Thu, 01 Jan 1970 00:60:00 +0000", "Thu, 01 Jan 1970 00:00:60 +0000", "Thu, 01 Jan 1970 -1:00:00 +0000", "Thu, 01 Jan 1970 +0:00:00 +0000", "Thu, 01 Jan 1970 0:00:00 +0000", "Thu, 01 Jan 1970 00:00 +0000", "Thu, 01 Jan 1970 00.00.00 +0000", "Thu, 01 Jan 1970 99:99:99 +0000", "Sat, 31 Dec 2016 23:59:60 +0000",
		"Thu, 01 Jan 1970 00:00:00 +0100", "Thu, 01 Jan 1970 00:00:00 -0000", "Thu, 01 Jan 1970 00:00:00 GMT", "Thu, 01 Jan 1970 00:00:00 UTC  ", "Thu, 01 Jan 1970 00:00:00", "Thu, 01 Jan 1970 00:00:00 ", "Thu, 01 Jan 1970 00:00:00  0000", "Thu, 01 Jan 1970 00:00:00 +000", "Thu, 01 Jan 1970 00:00:00 +00000", "Thu, 01 Jan 1970 00:00:00\t+0000",
		" Thu, 01 Jan 1970 00:00:00 +0000", "Thu, 01 Jan 1970 00:00:00 +0000 ", "Thu, 01 Jan 1970 00:00:00 +0000\r\n", "Thu, 01 Jan 1970 00:00:00 +0000\x00", "Thu, 01 Jan 1970 00:00:00 +0000Thu, 01 Jan 1970 00:00:00 +0000",
		"Thu, \u0660\u0661 Jan 1970 00:00:00 +0000", "Thu, \u0661 Jan 1970 00:00:00 +0000", "Thu, 01 Jan 1_70 00:00:00 +0000", "Thu, 01 Jan 0x7b 00:00:00 +0000", "Thu, 01 Jan 1e03 00:00:00 +0000",
		"Fri, 31 Dec 9999 24:00:00 +0000", "Fri, 31 Dec 9999 23:59:60 +0000", "Sat, 32 Dec 9999 00:00:00 +0000", "Sat, 31 Dec 9999 23:59:59 +0000",
	} {
		if n, ok := Parse(s); n != 0 || ok {
			t.Errorf("Parse(%.99q): %d %v", s, n, ok)
		}
		if _, is := plainParse(s); is {
			t.Errorf("plainParse(%.99q)", s)
		}
	}
}

// P9.3: stamps that end too early, lack a byte, have two places changed, or have any byte in the place of one, or between two.
func TestParseEachByte(t *testing.T) {
	for _, n := range []int{0, 951868799, 1763251200, 966733261, last} {
		s := plainStamp(n)
		for i := range s {
			parsed(t, s[:i])
			parsed(t, s[i:])
			parsed(t, s[:i]+s[i+1:])
			for j := range i {
				parsed(t, s[:j]+s[i:i+1]+s[j+1:i]+s[j:j+1]+s[i+1:])
			}
		}
		for i := range len(s) + 1 {
			for v := range 256 {
				one := string([]byte{byte(v)})
				parsed(t, s[:i]+one+s[i:])
				if i < len(s) {
					parsed(t, s[:i]+one+s[i+1:])
				}
			}
		}
	}
}

// P9.3: numbers of two digits in each place that has them, and all years of four.
func TestParseNumbers(t *testing.T) {
	for _, n := range []int{0, 951868799, 1763251200, last} {
		s := plainStamp(n)
		for _, at := range []int{5, 12, 14, 17, 20, 23} {
			for v := range 100 {
				parsed(t, s[:at]+strconv.Itoa(100 + v)[1:]+s[at+2:])
			}
		}
		for year := range 10000 {
			digits := strconv.Itoa(10000 + year)[1:]
			parsed(t, s[:12]+digits+s[16:])
		}
	}
}

// P9.3: each day of the week with each month and each day of the month, of some years.
func TestParseNames(t *testing.T) {
	for _, year := range []string{"0000", "1969", "1970", "2000", "2100", "2400", "9999"} {
		for _, month := range append([]string{"jan", "anF", "   ", "000"}, plainMonths...) {
			for _, week := range []string{"Mon", "Tue", "Wed", "Thu", "Fri", "Sat", "Sun", "sun", "onT", "   "} {
				for day := range 34 {
					parsed(t, week+", "+strconv.Itoa(100 + day)[1:]+" "+month+" "+year+" 01:02:03 +0000")
				}
			}
		}
	}
}
