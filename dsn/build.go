package dsn

import (
	"pigeonhole/addr"
	"pigeonhole/api"
	"pigeonhole/clock"
	"pigeonhole/head"
)

// The names of the fields whose values tell something of the report.
const (
	fromName = "From"
	toName   = "To"
	dateName = "Date"
	typeName = "Content-Type"
)

// What stands about that which the fields tell.
const (
	fromAhead  = "postmaster@"
	typeAhead  = "multipart/report; report-type=delivery-status; boundary=\""
	typeBehind = "\""
)

// What stands about that which the lines of the body tell.
const (
	idAhead      = "The message "
	idBehind     = " could not be delivered to"
	reasonAhead  = "because: "
	arrivalAhead = "Arrival-Date: "
	rcptAhead    = "Final-Recipient: rfc822; "
	statusAhead  = "Status: "
	headType     = typeName + ": text/rfc822-headers"
)

// Build is a report's message.
func Build(r api.Report) ([]byte, api.Errno) {
	if !Good(r) {
		return nil, api.ErrForm
	}
	mark := Mark(r.Id, r.Head)
	return head.Build(fields(r, mark), body(r, mark))
}

// fields are the fields of a right report's message.
func fields(r api.Report, mark string) []api.Field {
	to, _ := addr.Text(r.To)
	date, _ := clock.Stamp(r.Now)
	return []api.Field{
		{Name: fromName, Value: fromAhead + r.Host},
		{Name: toName, Value: to},
		{Name: dateName, Value: date},
		{Name: "Subject", Value: "Undelivered mail"},
		{Name: "MIME-Version", Value: "1.0"},
		{Name: typeName, Value: typeAhead + mark + typeBehind},
	}
}

// body is the body of a right report's message.
func body(r api.Report, mark string) []byte {
	var b []byte
	lay := func(pieces ...string) {
		for _, s := range pieces {
			b = append(b, s...)
		}
		b = append(b, lineEnd...)
	}
	rcpt, _ := addr.Text(r.Rcpt)
	arrival, _ := clock.Stamp(r.Arrival)
	lay(dashes, mark)
	lay(typeName, ": text/plain")
	lay()
	lay(idAhead, r.Id, idBehind)
	lay(rcpt)
	lay(reasonAhead, r.Reason)
	lay(dashes, mark)
	lay(typeName, ": message/delivery-status")
	lay()
	lay("Reporting-MTA: dns; ", r.Host)
	lay(arrivalAhead, arrival)
	lay()
	lay(rcptAhead, rcpt)
	lay("Action: failed")
	lay(statusAhead, r.Status)
	lay(dashes, mark)
	lay(headType)
	lay()
	b = append(b, r.Head...)
	lay(dashes, mark, dashes)
	return b
}
