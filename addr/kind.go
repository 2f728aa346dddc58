package addr

import (
	"strings"

	"pigeonhole/api"
)

// Bytes of local parts that don't stand for themselves.
const (
	quote  = '"'
	escape = '\\'
)

// kind tells whether a byte is of a kind.
type kind func(v byte) bool

// span is the kind of bytes from one to another.
func span(first, last byte) kind {
	return func(v byte) bool { return v >= first && v <= last }
}

// among is the kind of bytes that stand in a text.
func among(s string) kind {
	return func(v byte) bool { return strings.IndexByte(s, v) >= 0 }
}

// either is the kind of bytes that are of one of some kinds.
func either(kinds ...kind) kind {
	return func(v byte) bool {
		for _, is := range kinds {
			if is(v) {
				return true
			}
		}
		return false
	}
}

// alphanumeric is the kind of letters and digits.
func alphanumeric() kind {
	return either(span('a', 'z'), span('A', 'Z'), span('0', '9'))
}

// inAtom is the kind of an atom's bytes.
func inAtom() kind {
	return either(alphanumeric(), among("!#$%&'*+-/=?^_`{|}~"))
}

// inLabel is the kind of a label's bytes.
func inLabel() kind {
	return either(alphanumeric(), among("-"))
}

// printable is the kind of bytes that a local part tells.
func printable() kind {
	return span(0x20, 0x7e)
}

// dotted tells whether a local part is atoms with points between.
func dotted(local string) bool {
	r := reader{s: local}
	return r.atoms() && r.ended()
}

// quoted is a local part as it is written where it isn't atoms.
func quoted(local string) string {
	special := among(string([]byte{quote, escape}))
	b := []byte{quote}
	for i := range len(local) {
		if special(local[i]) {
			b = append(b, escape)
		}
		b = append(b, local[i])
	}
	return string(append(b, quote))
}

// lowered is a mailbox with small letters.
func lowered(a api.Addr) api.Addr {
	return api.Addr{Local: small(a.Local), Domain: small(a.Domain)}
}

// small is a text with small letters.
func small(s string) string {
	// Byte by byte, since strings.ToLower makes letters of others than A to Z, and of bytes that are no runes others.
	great := span('A', 'Z')
	b := []byte(s)
	for i, v := range b {
		if great(v) {
			b[i] = v - 'A' + 'a'
		}
	}
	return string(b)
}
