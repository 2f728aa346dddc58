package octet

import (
	"slices"
)

// Sink is what was put down.
type Sink struct {
	b []byte
}

// NewSink is a sink without bytes.
func NewSink() *Sink {
	return &Sink{}
}

// U puts a number down.
func (s *Sink) U(v uint64, k int) bool {
	b, ok := Put(v, k)
	s.b = append(s.b, b...)
	return ok
}

// I puts a signed number down.
func (s *Sink) I(v, k int) bool {
	if !Fits(v, k) {
		return false
	}
	// Without the bits that the sign fills ahead of its k bytes.
	ahead := 64 - 8*k
	return s.U(uint64(v)<<ahead>>ahead, k)
}

// Text puts a text down.
func (s *Sink) Text(t string) {
	s.U(uint64(len(t)), lengthSize)
	s.b = append(s.b, t...)
}

// Raw puts bytes down.
func (s *Sink) Raw(b []byte) {
	s.b = append(s.b, b...)
}

// Len is how many bytes there are.
func (s *Sink) Len() int {
	return len(s.b)
}

// Bytes is what was put down.
func (s *Sink) Bytes() []byte {
	return slices.Clone(s.b)
}
