package reply

import (
	"bytes"
	"strings"

	"pigeonhole/api"
)

// Read is the reply with which bytes begin.
func Read(b []byte, enh bool) (r api.Reply, n int, e api.Errno) {
next:
	line, _, ended := bytes.Cut(b[n:], []byte(lineEnd))
	if !ended {
		return api.Reply{}, 0, api.ErrShort
	}
	one, goesOn, ok := single(string(line), enh)
	if !ok || len(r.Lines) > 0 && (one.Code != r.Code || one.Enh != r.Enh) {
		return api.Reply{}, 0, api.ErrForm
	}
	n += len(line) + len(lineEnd)
	one.Lines = append(r.Lines, one.Lines...)
	r = one
	if goesOn {
		goto next
	}
	return r, n, api.OK
}

// single is the reply that a line without its end would be alone, whether more lines are to come, and whether the line is of the form.
func single(line string, enh bool) (r api.Reply, goesOn, ok bool) {
	if len(line) <= digits || line[digits] != more && line[digits] != last {
		return api.Reply{}, false, false
	}
	r.Code, ok = number(line[:digits])
	text := line[digits+1:]
	if enh {
		blank := false
		r.Enh, text, blank = strings.Cut(text, " ")
		// A reply may be without an enhanced code, but not here.
		ok = ok && blank && r.Enh != ""
	}
	r.Lines = []string{text}
	return r, line[digits] == more, ok && Good(r)
}

// All is the replies that stand there.
func All(b []byte, enh bool) ([]api.Reply, api.Errno) {
	var l []api.Reply
	for len(b) > 0 {
		r, n, e := Read(b, enh)
		if e != api.OK {
			return nil, e
		}
		l, b = append(l, r), b[n:]
	}
	return l, api.OK
}
