package cmd

import (
	"strings"
)

// kind tells whether a byte is of a kind.
type kind func(v byte) bool

// span is the kind of bytes from one to another.
func span(first, last byte) kind {
	return func(v byte) bool { return v >= first && v <= last }
}

// visible is the kind of bytes that can be seen, but those of a text.
func visible(but string) kind {
	is := span('!', '~')
	return func(v byte) bool { return is(v) && strings.IndexByte(but, v) < 0 }
}

// inName is the kind of the bytes of a parameter's name.
func inName() kind {
	small, large, digit := span('a', 'z'), span('A', 'Z'), span('0', '9')
	return func(v byte) bool { return small(v) || large(v) || digit(v) || v == '-' }
}

// spelt tells whether a text is bytes of a kind, one at least.
func spelt(s string, is kind) bool {
	for i := range len(s) {
		if !is(s[i]) {
			return false
		}
	}
	return s != ""
}

// great is a text with great letters.
func great(s string) string {
	// Byte by byte, since strings.ToUpper makes A to Z of letters beyond a to z, too.
	small := span('a', 'z')
	b := []byte(s)
	for i, v := range b {
		if small(v) {
			b[i] = v - 'a' + 'A'
		}
	}
	return string(b)
}
