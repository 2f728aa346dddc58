package dsn

import (
	"bytes"
	"strings"

	"pigeonhole/addr"
	"pigeonhole/api"
	"pigeonhole/clock"
	"pigeonhole/head"
)

// partCount is how many parts a report's message has: what people read, what programs read, and the head of what wasn't delivered.
const partCount = 3

// Read is the report of a message.
func Read(msg []byte) (api.Report, api.Errno) {
	r := gather(msg)
	// What isn't of the form may tell a report all the same, but has other bytes than that one's message.
	if again, e := Build(r); e != api.OK || !bytes.Equal(again, msg) {
		return api.Report{}, api.ErrForm
	}
	return r, api.OK
}

// gather is the report whose message that is, if it is one's. Of another message it is whatever stands where a report is told: whoever asks looks whether that report's message is this one.
func gather(msg []byte) api.Report {
	l, body, _ := head.Split(msg)
	parts, _ := Parts(body, within(value(l, typeName), typeAhead, typeBehind))
	if len(parts) != partCount {
		return api.Report{}
	}
	notice, status, headers := parts[0], parts[1], parts[2]
	r := api.Report{
		Host:   within(value(l, fromName), fromAhead, ""),
		Status: inLine(status, statusAhead, ""),
		Reason: inLine(notice, reasonAhead, ""),
		Id:     inLine(notice, idAhead, idBehind),
	}
	r.To, _ = addr.Parse(value(l, toName))
	r.Rcpt, _ = addr.Parse(inLine(status, rcptAhead, ""))
	r.Arrival, _ = clock.Parse(inLine(status, arrivalAhead, ""))
	r.Now, _ = clock.Parse(value(l, dateName))
	if b := bytes.TrimPrefix(headers, []byte(headType+lineEnd+lineEnd)); len(b) > 0 {
		r.Head = b
	}
	return r
}

// value is the value of the first field with a name; nothing, if there is none.
func value(l []api.Field, name string) string {
	values := head.Get(l, name)
	if len(values) == 0 {
		return ""
	}
	return values[0]
}

// inLine is what stands, between what is ahead and what is behind, in the first line that begins with what is ahead; nothing, if there is none.
func inLine(text []byte, ahead, behind string) string {
	for line := range lines(text) {
		if bytes.HasPrefix(line, []byte(ahead)) {
			return within(string(line), ahead, behind)
		}
	}
	return ""
}

// within is a text without what is ahead and what is behind, where they stand there.
func within(s, ahead, behind string) string {
	return strings.TrimSuffix(strings.TrimPrefix(s, ahead), behind)
}
