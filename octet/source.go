package octet

import (
	"slices"

	"pigeonhole/api"
)

// Source is bytes that are taken.
type Source struct {
	left []byte
	err  api.Errno
}

// NewSource is a source of bytes.
func NewSource(b []byte) *Source {
	return &Source{left: slices.Clone(b)}
}

// fail is the error from now on, if there is none yet.
func (s *Source) fail(e api.Errno) {
	if s.err == api.OK {
		s.err = e
	}
}

// take is the next n bytes, which are the source's own still; with an error there are none.
func (s *Source) take(n int) []byte {
	if n > len(s.left) {
		s.fail(api.ErrShort)
	}
	if s.err != api.OK {
		return nil
	}
	b := s.left[:n]
	s.left = s.left[n:]
	return b
}

// U takes a number.
func (s *Source) U(k int) uint64 {
	if !sized(k) {
		s.fail(api.ErrArg)
	}
	v, _ := Get(s.take(k), 0, k)
	return v
}

// I takes a signed number.
func (s *Source) I(k int) int {
	n, _ := Signed(s.U(k), k)
	return n
}

// Text takes a text.
func (s *Source) Text(most int) string {
	length, ok := Get(s.left, 0, lengthSize)
	if !ok {
		s.fail(api.ErrShort)
	}
	n := int(length)
	if n > most {
		s.fail(api.ErrLarge)
	}
	// Length and text go together, so that with an error neither is taken.
	b := s.take(lengthSize + n)
	if s.err != api.OK {
		return ""
	}
	return string(b[lengthSize:])
}

// Raw takes bytes.
func (s *Source) Raw(n int) []byte {
	if n < 0 {
		s.fail(api.ErrArg)
	}
	return slices.Clone(s.take(n))
}

// Left is how many bytes aren't taken.
func (s *Source) Left() int {
	return len(s.left)
}

// Err is the error.
func (s *Source) Err() api.Errno {
	return s.err
}

// Done is the error, or that bytes are left.
func (s *Source) Done() api.Errno {
	if s.err == api.OK && len(s.left) > 0 {
		return api.ErrForm
	}
	return s.err
}
