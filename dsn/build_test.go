package dsn

import (
	"bytes"
	"math/rand"
	"reflect"
	"strings"
	"testing"
	"time"

	"pigeonhole/addr"
	"pigeonhole/api"
	"pigeonhole/head"
)

// plainStamp is a time's stamp, as the library has it.
func plainStamp(n int) string {
	return time.Unix(int64(n), 0).UTC().Format("Mon, 02 Jan 2006 15:04:05 +0000")
}

// plainMessage is a right report's message, by the chapter's words.
func plainMessage(r api.Report) string {
	mark := plainMark(r.Id, string(r.Head))
	to, _ := addr.Text(r.To)
	rcpt, _ := addr.Text(r.Rcpt)
	body := "--" + mark + "\r\nContent-Type: text/plain\r\n\r\nThe message " + r.Id + " could not be delivered to\r\n" + rcpt + "\r\nbecause: " + r.Reason + "\r\n"
	body += "--" + mark + "\r\nContent-Type: message/delivery-status\r\n\r\nReporting-MTA: dns; " + r.Host + "\r\nArrival-Date: " + plainStamp(r.Arrival) + "\r\n\r\n"
	body += "Final-Recipient: rfc822; " + rcpt + "\r\nAction: failed\r\nStatus: " + r.Status + "\r\n"
	body += "--" + mark + "\r\nContent-Type: text/rfc822-headers\r\n\r\n" + string(r.Head) + "--" + mark + "--\r\n"
	b, _ := head.Build([]api.Field{
		{Name: "From", Value: "postmaster@" + r.Host}, {Name: "To", Value: to}, {Name: "Date", Value: plainStamp(r.Now)}, {Name: "Subject", Value: "Undelivered mail"}, {Name: "MIME-Version", Value: "1.0"},
		{Name: "Content-Type", Value: "multipart/report; report-type=delivery-status; boundary=\"" + mark + "\""},
	}, []byte(body))
	return string(b)
}

// built fails, unless a report has that message, which tells it again.
func built(t *testing.T, r api.Report, want string) {
	t.Helper()
	b, e := Build(r)
	if string(b) != want || e != api.OK {
		t.Fatalf("Build(%s): %.2000q %v, not %.2000q", shown(r), b, e, want)
	}
	again(t, r)
}

// again fails, unless a report is told by its message.
func again(t *testing.T, r api.Report) {
	t.Helper()
	b, _ := Build(r)
	if len(r.Head) == 0 {
		r.Head = nil
	}
	if k, e := Read(b); !reflect.DeepEqual(k, r) || e != api.OK {
		t.Fatalf("Read of Build(%s): %s %v", shown(r), shown(k), e)
	}
}

// P11.1, P11.4: a whole message, as the chapter tells it.
func TestBuild(t *testing.T) {
	built(t, sample(), strings.ReplaceAll(`From: postmaster@x.org
To: "a b"@y
Date: Tue, 29 Feb 2000 00:00:00 +0000
Subject: Undelivered mail
MIME-Version: 1.0
Content-Type: multipart/report; report-type=delivery-status; boundary="ph-7-0"

--ph-7-0
Content-Type: text/plain

The message 7 could not be delivered to
b@z.net
because: over quota
--ph-7-0
Content-Type: message/delivery-status

Reporting-MTA: dns; x.org
Arrival-Date: Thu, 01 Jan 1970 00:00:00 +0000

Final-Recipient: rfc822; b@z.net
Action: failed
Status: 4.2.2
--ph-7-0
Content-Type: text/rfc822-headers

Subject: hi
--ph-7-0--
`, "\n", "\r\n"))
}

// P11.1, P11.4: the same with long fields, which are folded, a mailbox that needs quotes, no head, and other times.
func TestBuildFolded(t *testing.T) {
	r := api.Report{Host: "H", To: at(many("x", 50)+" \"y\" "+many("z", 9), many("d", 64)), Rcpt: at("--ph-12-0--", "R"), Status: "5.10.100", Reason: "--ph-12-0", Id: "12", Arrival: 951868799, Now: lastTime}
	built(t, r, strings.ReplaceAll(`From: postmaster@H
To: "`+many("x", 50)+` \"y\"
 `+many("z", 9)+`"@`+many("d", 64)+`
Date: Fri, 31 Dec 9999 23:59:59 +0000
Subject: Undelivered mail
MIME-Version: 1.0
Content-Type: multipart/report; report-type=delivery-status;
 boundary="ph-12-0"

--ph-12-0
Content-Type: text/plain

The message 12 could not be delivered to
--ph-12-0--@R
because: --ph-12-0
--ph-12-0
Content-Type: message/delivery-status

Reporting-MTA: dns; H
Arrival-Date: Tue, 29 Feb 2000 23:59:59 +0000

Final-Recipient: rfc822; --ph-12-0--@R
Action: failed
Status: 5.10.100
--ph-12-0
Content-Type: text/rfc822-headers

--ph-12-0--
`, "\n", "\r\n"))
}

// P11.1, P11.4: heads that have marks in them, or look like what else a message of a report has.
func TestBuildHeads(t *testing.T) {
	whole := plainMessage(sample())
	for head, mark := range map[string]string{
		"":                                      "ph-7-0",
		"\r\n":                                  "ph-7-0",
		"\r\n\r\n\r\n":                          "ph-7-0",
		"--ph-7-0\r\n":                          "ph-7-1",
		"--ph-7-0--\r\n":                        "ph-7-1",
		"--ph-7-1--\r\n--ph-7-00\r\n":           "ph-7-2",
		"a: b\r\n\r\n--ph-7-1--\r\n":            "ph-7-0",
		"Content-Type: text/rfc822-headers\r\n": "ph-7-0",
		"Content-Type: text/rfc822-headers\r\n\r\n":   "ph-7-0",
		"Status: 5.0.0\r\nbecause: no\r\n":            "ph-7-0",
		"\x00\x80\xff\r\n\t\r\n":                      "ph-7-0",
		whole:                                         "ph-7-1",
		strings.ReplaceAll(whole, "ph-7-0", "ph-7-1"): "ph-7-0",
		whole + whole:                                 "ph-7-1",
	} {
		r := turned(func(r *api.Report) { r.Head = []byte(head) })
		built(t, r, plainMessage(r))
		b, _ := Build(r)
		if !strings.Contains(string(b), " boundary=\""+mark+"\"\r\n") || !strings.HasSuffix(string(b), "\r\n\r\n"+head+"--"+mark+"--\r\n") {
			t.Errorf("%.99q: %.2000q", head, b)
		}
	}
	built(t, longest(), plainMessage(longest()))
}

// P11.1: the bound stands in a body that is parted by the mark into three parts, the head being the last one's.
func TestBuildIsParted(t *testing.T) {
	r := sample()
	b, _ := Build(r)
	l, body, ok := head.Split(b)
	parts, is := Parts(body, Mark(r.Id, r.Head))
	if len(l) != 6 || len(parts) != 3 || !ok || !is {
		t.Fatalf("%q %q", l, parts)
	}
	if string(parts[2]) != "Content-Type: text/rfc822-headers\r\n\r\nSubject: hi\r\n" {
		t.Errorf("%q", parts[2])
	}
}

// drawnLocal is a drawn local part of 1 to 64 bytes that may be told.
func drawnLocal(r *rand.Rand) string {
	b := make([]byte, 1+r.Intn(64))
	for i := range b {
		switch r.Intn(6) {
		case 0:
			b[i] = ' '
		case 1:
			b[i] = "\"\\.@-"[r.Intn(5)]
		case 2:
			b[i] = byte(0x20 + r.Intn(0x5f))
		default:
			b[i] = byte('a' + r.Intn(26))
		}
	}
	return string(b)
}

// drawnHead is a drawn head of lines that have marks of an id, and whatever else.
func drawnHead(r *rand.Rand, id string) []byte {
	pieces := []string{"--ph-" + id + "-0", "--ph-" + id + "-1", "--ph-" + id + "-2", "--ph-" + id + "-", "--", "0", "1", "a", " ", "A: b", "Status: 4.0.0", "\x00", "\xff", "Content-Type: text/rfc822-headers\r\n"}
	var b []byte
	for range r.Intn(8) {
		for range r.Intn(4) {
			b = append(b, pieces[r.Intn(len(pieces))]...)
		}
		b = append(b, "\r\n"...)
	}
	return b
}

// drawnReport is a drawn report, a right one.
func drawnReport(r *rand.Rand) api.Report {
	pick := func(l ...string) string { return l[r.Intn(len(l))] }
	id := pick("7", "0", "aZ9", many("i", 9), many("1", 20))
	d := api.Report{
		Host:    pick("x", "X.Org", many("h", 64), "1.2", "a-b.c"),
		To:      at(pick("a", "A.b", drawnLocal(r), drawnLocal(r)), pick("y", many("y", 64), "Y.1")),
		Rcpt:    at(pick("b", "--ph-"+id+"-0", "--ph-"+id+"-0--", drawnLocal(r)), pick("z", "x.org")),
		Status:  pick("4.2.2", "5.1.1", "4.0.999", "5.100.10"),
		Reason:  pick("r", "over quota", "--ph-"+id+"-0", "because: a  b", many("r", 200), "The message 7 could not be delivered to"),
		Id:      id,
		Arrival: r.Intn(lastTime + 1),
		Now:     r.Intn(lastTime + 1),
	}
	d.Head = drawnHead(r, id)
	return d
}

// P11.1, P11.4: drawn reports have the messages that the chapter's words tell, and are told by them again.
func TestBuildDrawn(t *testing.T) {
	r := rand.New(rand.NewSource(11))
	for range 20000 {
		d := drawnReport(r)
		built(t, d, plainMessage(d))
	}
}

// others are reports that are right, each another one.
func others() []api.Report {
	l := []api.Report{sample(), longest()}
	for _, turn := range []func(r *api.Report){
		func(r *api.Report) { r.Host = "X.org" },
		func(r *api.Report) { r.Host = "z.net" },
		func(r *api.Report) { r.To = at("a  b", "y") },
		func(r *api.Report) { r.To = at("a b ", "y") },
		func(r *api.Report) { r.To = at(" a b", "y") },
		func(r *api.Report) { r.To = at("\"a b\"", "y") },
		func(r *api.Report) { r.To = at("a\\ b", "y") },
		func(r *api.Report) { r.To = at("a B", "y") },
		func(r *api.Report) { r.To = at("a b", "Y") },
		func(r *api.Report) { r.To = r.Rcpt },
		func(r *api.Report) { r.To, r.Rcpt = r.Rcpt, r.To },
		func(r *api.Report) { r.Rcpt = r.To },
		func(r *api.Report) { r.Rcpt = at("B", "z.net") },
		func(r *api.Report) { r.Rcpt = at("b", "z.Net") },
		func(r *api.Report) { r.Rcpt = at(" b", "z.net") },
		func(r *api.Report) { r.Status = "5.2.2" },
		func(r *api.Report) { r.Status = "4.22.2" },
		func(r *api.Report) { r.Status = "4.2.22" },
		func(r *api.Report) { r.Reason = "Over quota" },
		func(r *api.Report) { r.Reason = "over  quota" },
		func(r *api.Report) { r.Reason = "because: over quota" },
		func(r *api.Report) { r.Id = "07" },
		func(r *api.Report) { r.Id = "a" },
		func(r *api.Report) { r.Id = "A" },
		func(r *api.Report) { r.Arrival = 1 },
		func(r *api.Report) { r.Now++ },
		func(r *api.Report) { r.Arrival, r.Now = r.Now, r.Arrival },
		func(r *api.Report) { r.Arrival = r.Now },
		func(r *api.Report) { r.Now = r.Arrival },
		func(r *api.Report) { r.Head = nil },
		func(r *api.Report) { r.Head = []byte("\r\n") },
		func(r *api.Report) { r.Head = []byte("Subject: hi\r\n\r\n") },
		func(r *api.Report) { r.Head = []byte("\r\nSubject: hi\r\n") },
		func(r *api.Report) { r.Head = []byte("Subject:  hi\r\n") },
		func(r *api.Report) { r.Head = []byte("Subject: hi\r\n--ph-7-0\r\n") },
		func(r *api.Report) { r.Head = []byte("Subject: hi\r\n--ph-7-0--\r\n") },
		func(r *api.Report) { r.Head = []byte("Subject: hi\r\n--ph-7-1--\r\n") },
	} {
		l = append(l, turned(turn))
	}
	return l
}

// P11.4: two right reports have one message just if they are one.
func TestBuildTellsApart(t *testing.T) {
	seen := map[string]int{}
	for i, r := range others() {
		b, e := Build(r)
		if k, is := seen[string(b)]; is || e != api.OK {
			t.Errorf("%d and %d: %.2000q %v", i, k, b, e)
		}
		seen[string(b)] = i
		built(t, r, plainMessage(r))
	}
	a, _ := Build(turned(func(r *api.Report) { r.Head = nil }))
	b, _ := Build(turned(func(r *api.Report) { r.Head = []byte{} }))
	if !bytes.Equal(a, b) {
		t.Errorf("%q, not %q", a, b)
	}
}

// P11.4: the head that is handed in stays, and what lies behind its length is neither read nor written.
func TestBuildHandedInStays(t *testing.T) {
	whole := []byte("a\r\nb\r\n\r\n--ph-7-0\r\nc\r\n")
	was := string(whole)
	for n := range len(whole) + 1 {
		r := turned(func(r *api.Report) { r.Head = whole[:n] })
		if b, e := Build(r); e == api.OK && string(b) != plainMessage(r) || (e == api.OK) != plainHead(was[:n]) {
			t.Errorf("%d bytes: %q %v", n, b, e)
		}
		if string(whole) != was {
			t.Fatalf("%d bytes: left %q", n, whole)
		}
	}
}

// P11.4: what is built is new memory.
func TestBuildIsNew(t *testing.T) {
	r := sample()
	want := plainMessage(r)
	a, _ := Build(r)
	b, _ := Build(r)
	clear(b)
	_ = append(b, "more"...)
	if string(a) != want || !reflect.DeepEqual(r, sample()) {
		t.Errorf("%q, left %s", a, shown(r))
	}
	clear(r.Head)
	if string(a) != want {
		t.Errorf("%q", a)
	}
}
