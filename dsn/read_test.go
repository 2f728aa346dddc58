package dsn

import (
	"math/rand"
	"reflect"
	"slices"
	"strings"
	"testing"
	"time"

	"pigeonhole/addr"
	"pigeonhole/api"
)

// plainRead is the report of a message, by the chapter's words; false, if there is none.
func plainRead(s string) (api.Report, bool) {
	until := func(end string) string {
		text, rest, _ := strings.Cut(s, end)
		s = rest
		return text
	}
	stamped := func(s string) int {
		when, _ := time.Parse("Mon, 02 Jan 2006 15:04:05 +0000", s)
		return int(when.Unix())
	}
	mailbox := func(s string) api.Addr {
		a, _ := addr.Parse(strings.ReplaceAll(s, "\r\n", ""))
		return a
	}
	msg := s
	until("From: postmaster@")
	r := api.Report{Host: until("\r\nTo: "), To: mailbox(until("\r\nDate: ")), Now: stamped(until("\r\nSubject: "))}
	until("\r\nThe message ")
	r.Id = until(" could not be delivered to\r\n")
	until("\r\nbecause: ")
	r.Reason = until("\r\n")
	until("\r\nArrival-Date: ")
	r.Arrival = stamped(until("\r\n"))
	until("Final-Recipient: rfc822; ")
	r.Rcpt = mailbox(until("\r\n"))
	until("Status: ")
	r.Status = until("\r\n")
	until("Content-Type: text/rfc822-headers\r\n\r\n")
	if n := strings.LastIndex(s, "--ph-"); n > 0 {
		r.Head = []byte(s[:n])
	}
	if !Good(r) || plainMessage(r) != msg {
		return api.Report{}, false
	}
	return r, true
}

// asTold fails, unless bytes are read as the chapter's words tell; it tells whether they are the message of a report.
func asTold(t *testing.T, s string) bool {
	t.Helper()
	want, is := plainRead(s)
	r, e := Read([]byte(s))
	if !reflect.DeepEqual(r, want) || is != (e == api.OK) || !is && e != api.ErrForm {
		t.Fatalf("Read(%.2000q): %s %v, not %s", s, shown(r), e, shown(want))
	}
	return is
}

// P11.3: messages of reports, written by hand.
func TestRead(t *testing.T) {
	for i, r := range others() {
		if !asTold(t, plainMessage(r)) {
			t.Errorf("%d: none", i)
		}
	}
	s := plainMessage(sample())
	for old, new := range map[string]string{"b@z.net": "c@z.net", "ph-7-0": "ph-7-0", "over quota": "no such user", "x.org": "host.example", "4.2.2": "5.2.2", "Subject: hi\r\n": "", "Thu, 01 Jan 1970": "Fri, 02 Jan 1970"} {
		if !asTold(t, strings.ReplaceAll(s, old, new)) {
			t.Errorf("%q: none", new)
		}
	}
	if r, e := Read([]byte(strings.Replace(s, "Subject: hi\r\n", "", 1))); r.Head != nil || e != api.OK {
		t.Errorf("%s %v", shown(r), e)
	}
}

// none fails, unless bytes are the message of no report.
func none(t *testing.T, s string) {
	t.Helper()
	if r, e := Read([]byte(s)); !reflect.DeepEqual(r, api.Report{}) || e != api.ErrForm {
		t.Errorf("Read(%.2000q): %s %v", s, shown(r), e)
	}
	if _, is := plainRead(s); is {
		t.Errorf("plainRead(%.2000q)", s)
	}
}

// P11.3: bytes that are no message of a report at all.
func TestReadNone(t *testing.T) {
	s := plainMessage(sample())
	for _, bad := range []string{"", "a", "\r\n", "\r\n\r\n", "a: b\r\n\r\nc", "\x00\xff", many("a", 1<<20), many("\r\n", 1<<19), many("a: b\r\n", 50000) + "\r\n", "--ph-7-0\r\n--ph-7-0--\r\n",
		s + "x", s + "\r\n", s + s, "x" + s, "\r\n" + s, " " + s, s[1:], s[:len(s)-1], s[:len(s)-2], strings.ToLower(s), strings.ToUpper(s), strings.ReplaceAll(s, "\r\n", "\n"), strings.ReplaceAll(s, "\r\n", "\r\r\n"),
	} {
		none(t, bad)
	}
}

// P11.3: messages that tell a report, or nearly, but are no report's.
func TestReadNearly(t *testing.T) {
	s := plainMessage(sample())
	for _, twist := range [][2]string{
		{"From: postmaster@", "From: Postmaster@"}, {"From:", "from:"}, {"From:", "FROM:"}, {"From: ", "From:"}, {"From: ", "From:  "}, {"From: ", "From:\t"}, {"From: ", "From:\r\n "}, {"From: ", "Sender: "}, {"From: postmaster@x.org\r\n", ""}, {"From: ", "From: a\r\nFrom: "},
		{"postmaster@x.org", "postmaster@X.org"}, {"postmaster@x.org", "postmaster@y.org"}, {"postmaster@x.org", "x.org"}, {"postmaster@x.org", "postmaster@"}, {"postmaster@x.org", "postmaster@x.org "}, {"dns; x.org", "dns; X.org"}, {"dns; x.org", "dns; y.org"}, {"dns; x.org", "dns; x.org "},
		{"\"a b\"@y", "a b@y"}, {"\"a b\"@y", "\"a\\ b\"@y"}, {"\"a b\"@y", "\"ab\"@y"}, {"\"a b\"@y", "<\"a b\"@y>"}, {"\"a b\"@y", ""}, {"\"a b\"@y", "\"a b\"@y, c@y"}, {"\"a b\"@y", "\"a\r\n b\"@y"}, {"\"a b\"@y", "\"a b\"@"}, {"\"a b\"@y", "\"a b\"@y."}, {"\"a b\"@y", "\"" + many("a", 65) + "\"@y"},
		{"Tue, 29 Feb 2000", "Wed, 29 Feb 2000"}, {"Tue, 29 Feb 2000", "Tue, 30 Feb 2000"}, {"Tue, 29 Feb 2000", "29 Feb 2000"}, {"00:00:00 +0000\r\nSubject", "00:00:00 +0100\r\nSubject"}, {"00:00:00 +0000\r\nSubject", "24:00:00 +0000\r\nSubject"}, {"Date: ", "Date: x"},
		{"Thu, 01 Jan 1970", "Fri, 01 Jan 1970"}, {"Thu, 01 Jan 1970", "Wed, 31 Dec 1969"}, {"Thu, 01 Jan 1970", "Thu, 1 Jan 1970"}, {"Arrival-Date: ", "Arrival-Date:"}, {"Arrival-Date: ", "Date: "},
		{"Undelivered mail", "undelivered mail"}, {"Undelivered mail", "Undelivered  mail"}, {"Undelivered mail", "Undelivered mail "}, {"Undelivered mail", ""}, {"1.0", "1.1"}, {"MIME-Version", "Mime-Version"}, {"MIME-Version: 1.0\r\n", ""}, {"MIME-Version: 1.0\r\n", "MIME-Version: 1.0\r\nX: y\r\n"},
		{"multipart/report", "multipart/mixed"}, {"multipart/report", "Multipart/report"}, {"; report-type=delivery-status", ""}, {"\"ph-7-0\"", "ph-7-0"}, {"\"ph-7-0\"", "\"ph-7-0"}, {"\"ph-7-0\"", "\"ph-7-1\""}, {"\"ph-7-0\"", "\"ph-7-0\" "}, {"\"ph-7-0\"", "\"ph-7-0\";"}, {" boundary", "\r\n boundary"},
		{"\r\n\r\n--ph-7-0", "\r\n\r\nx\r\n--ph-7-0"}, {"\r\n\r\n--ph-7-0", "\r\n\r\n\r\n--ph-7-0"}, {"\r\n\r\n--ph-7-0", "\r\n--ph-7-0"},
		{"text/plain", "text/html"}, {"text/plain\r\n\r\n", "text/plain\r\n"}, {"text/plain\r\n", "text/plain\r\nx: y\r\n"}, {"The message 7", "The message 8"}, {"The message 7", "The message 07"}, {"The message 7", "The message "}, {"The message 7", "the message 7"}, {"delivered to\r\n", "delivered to\r\n\r\n"}, {"could not", "could"},
		{"to\r\nb@z.net", "to\r\nc@z.net"}, {"to\r\nb@z.net", "to\r\n\"b\"@z.net"}, {"to\r\nb@z.net\r\n", "to\r\n"}, {"rfc822; b@z.net", "rfc822; c@z.net"}, {"rfc822; b@z.net", "rfc822; \"b\"@z.net"}, {"rfc822; b@z.net", "rfc822; B@z.net"}, {"rfc822; b@z.net", "rfc822;b@z.net"}, {"rfc822; b@z.net", "b@z.net"},
		{"because: over quota", "because:  over quota"}, {"because: over quota", "because: over quota "}, {"because: over quota", "because: "}, {"because: over quota", "because: over\tquota"}, {"because: over quota", "because: " + many("r", 201)}, {"because: over quota\r\n", ""}, {"because: over quota\r\n", "because: over quota\r\n\r\n"}, {"because: ", "because "},
		{"message/delivery-status\r\n\r\n", "message/delivery-status\r\n"}, {"message/delivery-status", "text/plain"}, {"+0000\r\n\r\nFinal", "+0000\r\nFinal"}, {"Action: failed", "Action: delayed"}, {"Action: failed", "Action: Failed"}, {"Action: failed\r\n", ""}, {"Status: 4.2.2", "Status: 2.2.2"}, {"Status: 4.2.2", "Status: 4.2"}, {"Status: 4.2.2", "Status: 4.02.2"}, {"Status: 4.2.2\r\n", ""}, {"Status: 4.2.2\r\n", "Status: 4.2.2\r\nX: y\r\n"}, {"Status: 4.2.2\r\n", "Status: 4.2.2\r\n\r\n"},
		{"text/rfc822-headers\r\n\r\n", "text/rfc822-headers\r\n"}, {"text/rfc822-headers", "message/rfc822"}, {"Subject: hi\r\n", "Subject: hi\n"}, {"Subject: hi\r\n", "Subject: hi"}, {"Subject: hi\r\n", "Subject: hi\r\r\n"}, {"Subject: hi\r\n", "--ph-7-0\r\n"}, {"Subject: hi\r\n", "--ph-7-0--\r\n"}, {"Subject: hi\r\n", "--ph-7-01\r\n"}, {"Subject: hi\r\n", many("h", api.MaxMsg-1) + "\r\n"},
		{"--ph-7-0--", "--ph-7-0"}, {"--ph-7-0--", "--ph-7-0-"}, {"--ph-7-0--", "--ph-7-1--"},
	} {
		if !strings.Contains(s, twist[0]) {
			t.Errorf("no %q", twist[0])
		}
		none(t, strings.Replace(s, twist[0], twist[1], 1))
	}
}

// P11.3: the mark is the least one, and that of the id.
func TestReadMark(t *testing.T) {
	s := plainMessage(sample())
	for _, mark := range []string{"ph-7-1", "ph-7-00", "ph-7-", "ph-7", "ph-8-0", "ph--0", "PH-7-0", "7-0", "", "x", "ph-7-0--", "ph-7-\u0660"} {
		none(t, strings.ReplaceAll(s, "ph-7-0", mark))
	}
	s = plainMessage(turned(func(r *api.Report) { r.Head = []byte("--ph-7-0\r\n--ph-7-2\r\n") }))
	none(t, strings.ReplaceAll(s, "ph-7-1", "ph-7-3"))
	none(t, strings.ReplaceAll(s, "ph-7-1", "ph-7-0"))
	if !asTold(t, strings.ReplaceAll(strings.ReplaceAll(s, "--ph-7-0\r\n", "--ph-7-3\r\n"), "ph-7-1", "ph-7-0")) {
		t.Errorf("the least one")
	}
	if asTold(t, strings.ReplaceAll(s, "--ph-7-0\r\n", "--ph-7-3\r\n")) {
		t.Errorf("not the least one")
	}
}

// P11.3: fields that are folded otherwise than they are written.
func TestReadFolds(t *testing.T) {
	s := plainMessage(turned(func(r *api.Report) { r.Id, r.To = "77", at(many("a ", 31)+"aa", many("y", 30)) }))
	if !asTold(t, s) {
		t.Errorf("%q", s)
	}
	none(t, strings.Replace(s, ";\r\n boundary", "; boundary", 1))
	none(t, strings.Replace(s, "; report-type=delivery-status;\r\n boundary", ";\r\n report-type=delivery-status; boundary", 1))
	none(t, strings.Replace(s, "a\r\n a", "a a", 1))
	none(t, strings.Replace(s, "a a", "a\r\n a", 1))
	none(t, strings.Replace(s, "a\r\n a", "a\r\n\ta", 1))
}

// P11.3: a message whose lines are left out, doubled, and changed for the next or the first ones.
func TestReadLines(t *testing.T) {
	for _, r := range []api.Report{sample(), turned(func(r *api.Report) { r.Id, r.Head = "77", []byte("\r\n\r\na\r\nb\r\n--ph-77-0\r\n--ph-77-1--\r\n") })} {
		l := strings.SplitAfter(plainMessage(r), "\r\n")
		for i := range l {
			asTold(t, strings.Join(slices.Delete(slices.Clone(l), i, i+1), ""))
			asTold(t, strings.Join(slices.Insert(slices.Clone(l), i, l[i]), ""))
			for j := range i {
				k := slices.Clone(l)
				k[i], k[j] = k[j], k[i]
				asTold(t, strings.Join(k, ""))
			}
			for _, line := range []string{"\r\n", "a\r\n", "a: b\r\n", "--ph-7-0\r\n", "--ph-7-0--\r\n", "--ph-77-2\r\n"} {
				asTold(t, strings.Join(slices.Insert(slices.Clone(l), i, line), ""))
			}
		}
	}
}

// P11.3: a message that ends early, begins late, lacks a byte, or has another byte in the place of one, or between two.
func TestReadEachByte(t *testing.T) {
	found := 0
	for _, r := range []api.Report{sample(), turned(func(r *api.Report) { r.Id, r.Head = "zz", []byte("--ph-zz-0\r\n\r\n") })} {
		s := plainMessage(r)
		for i := range len(s) + 1 {
			for _, v := range []byte("\r\n\t -.:;@\"\\09azAZ\x00\x7f\xff") {
				if asTold(t, s[:i]+string([]byte{v})+s[i:]) {
					found++
				}
				if i < len(s) && asTold(t, s[:i]+string([]byte{v})+s[i+1:]) {
					found++
				}
			}
			asTold(t, s[:i])
			asTold(t, s[i:])
			if i < len(s) {
				asTold(t, s[:i]+s[i+1:])
			}
		}
	}
	// Reasons, heads and such can be told with other bytes, so that some of these messages are those of other reports.
	if found < 100 {
		t.Errorf("%d", found)
	}
}

// P11.3: drawn messages with drawn pieces changed, all over them too.
func TestReadDrawn(t *testing.T) {
	r := rand.New(rand.NewSource(12))
	pieces := []string{"", "a", " ", "\r\n", "--", "ph-7-0", "ph-7-1", "0", "7", "b@z", "\"", "Status: ", "x.org", "\x00"}
	for range 3000 {
		s := plainMessage(drawnReport(r))
		from := r.Intn(len(s))
		to := min(len(s), from+r.Intn(12))
		piece := pieces[r.Intn(len(pieces))]
		asTold(t, s[:from]+piece+s[to:])
		if to > from {
			asTold(t, strings.ReplaceAll(s, s[from:to], piece))
		}
	}
}

// P11.3: what is longer than any message of a report.
func TestReadLong(t *testing.T) {
	s := plainMessage(sample())
	none(t, strings.Replace(s, "Subject: hi\r\n", many("Subject: hi\r\n", 100000), 1))
	none(t, strings.Replace(s, "Subject: hi\r\n", many("--ph-7-0\r\n", 100000), 1))
	none(t, strings.Replace(s, "over quota", many("r", 1<<20), 1))
	none(t, strings.ReplaceAll(s, "7", many("7", 10000)))
	none(t, strings.ReplaceAll(s, "x.org", many("x", 100000)))
	if !asTold(t, strings.Replace(s, "Subject: hi\r\n", many("h", api.MaxMsg-2)+"\r\n", 1)) {
		t.Errorf("the longest head")
	}
}

// P11.4: the message that is handed in stays, and what lies behind its length is neither read nor written.
func TestReadHandedInStays(t *testing.T) {
	s := plainMessage(sample())
	whole := []byte(s + "--ph-7-0--\r\n")
	was := string(whole)
	for n := range len(whole) + 1 {
		if _, e := Read(whole[:n]); (e == api.OK) != (n == len(s)) {
			t.Errorf("%d bytes: %v", n, e)
		}
		if string(whole) != was {
			t.Fatalf("%d bytes: left %q", n, whole)
		}
	}
}

// P11.4: what is read is new memory.
func TestReadIsNew(t *testing.T) {
	b := []byte(plainMessage(sample()))
	r, _ := Read(b)
	k, _ := Read(b)
	clear(k.Head)
	_ = append(k.Head, "more"...)
	if string(b) != plainMessage(sample()) {
		t.Errorf("left %q", b)
	}
	clear(b)
	if !reflect.DeepEqual(r, sample()) {
		t.Errorf("%s", shown(r))
	}
}
