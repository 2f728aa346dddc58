package txlog

import (
	"slices"

	"pigeonhole/api"
	"pigeonhole/frame"
	"pigeonhole/octet"
)

// The kinds of a transaction's frames.
const (
	kindBegin = 32
	kindItem  = 33
	kindEnd   = 34
)

// In how many bytes the numbers of a transaction stand.
const (
	numberSize = 8
	countSize  = 2
)

// How many items a transaction may have, and how many bytes an item.
const (
	maxItems = 1000
	maxItem  = 4096
)

// Bytes is a transaction's.
func Bytes(n int, items [][]byte) ([]byte, api.Errno) {
	switch {
	case n < 1:
		return nil, api.ErrArg
	case len(items) > maxItems || slices.ContainsFunc(items, tooLong):
		return nil, api.ErrLarge
	}
	b := framed(kindBegin, begin(n, len(items)))
	for _, item := range items {
		b = append(b, framed(kindItem, item)...)
	}
	return append(b, framed(kindEnd, end(n))...), api.OK
}

// tooLong tells whether an item has too many bytes.
func tooLong(item []byte) bool {
	return len(item) > maxItem
}

// framed is a frame. It can't be refused: the greatest item is far from MaxPayload.
func framed(kind int, payload []byte) []byte {
	b, _ := frame.Wrap(kind, payload)
	return b
}

// begin is what stands ahead of so many items.
func begin(n, count int) []byte {
	s := octet.NewSink()
	s.U(uint64(n), numberSize)
	s.U(uint64(count), countSize)
	return s.Bytes()
}

// end is what stands behind the items.
func end(n int) []byte {
	b, _ := octet.Put(uint64(n), numberSize)
	return b
}
