package record

import (
	"pigeonhole/api"
	"pigeonhole/frame"
	"pigeonhole/octet"
)

// Read is the record of a payload.
func Read(kind int, payload []byte) (api.Rec, api.Errno) {
	fields := told(kind)
	if e := checkLength(kind, len(payload)-bytesOf(fields)); e != api.OK {
		return api.Rec{}, e
	}
	var n numbers
	at := 0
	for _, f := range fields {
		// One that is too great for an int comes out below 0, and so outside as well.
		v, _ := octet.Get(payload, at, forms[f].size)
		n[f] = int(v)
		if outside(f, n[f]) {
			return api.Rec{}, api.ErrArg
		}
		at += forms[f].size
	}
	return recordOf(kind, n, append([]byte(nil), payload[at:]...)), api.OK
}

// checkLength tells what is wrong with the kind, or with so many bytes behind its fields' (below 0: so many lack).
func checkLength(kind, behind int) api.Errno {
	switch {
	case len(told(kind)) == 0:
		return api.ErrKind
	case behind < 0:
		return api.ErrShort
	case kind != api.RecBody && behind > 0:
		return api.ErrForm
	case behind > api.MaxMsg:
		return api.ErrLarge
	}
	return api.OK
}

// Scan is the records that are found in bytes.
func Scan(b []byte) (l []api.Found, broken int) {
	broken = len(b)
	frames, _ := frame.Scan(b)
	for _, f := range frames {
		if r, e := Read(f.Kind, f.Payload); e == api.OK {
			l = append(l, api.Found{At: f.At, Len: f.Len, Rec: r})
			broken -= f.Len
		}
	}
	return l, broken
}
