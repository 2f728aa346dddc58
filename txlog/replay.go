package txlog

import (
	"bytes"

	"pigeonhole/api"
	"pigeonhole/frame"
	"pigeonhole/octet"
)

// reader takes a file's transactions frame by frame.
type reader struct {
	file []byte
	used int
}

// Replay is the transactions of a file's bytes.
func Replay(b []byte) (l []api.Tx, used int) {
	r := reader{file: b}
	for {
		t, ok := r.transaction(len(l) + 1)
		if !ok {
			return l, used
		}
		l, used = append(l, t), r.used
	}
}

// transaction takes the transaction that stands next, if it has that number. (One that isn't there as a whole may be taken in part.)
func (r *reader) transaction(n int) (api.Tx, bool) {
	head, ok := r.take(kindBegin)
	if !ok {
		return api.Tx{}, false
	}
	count, ok := begun(head, n)
	if !ok {
		return api.Tx{}, false
	}
	t := api.Tx{N: n}
	for range count {
		item, ok := r.take(kindItem)
		if !ok || tooLong(item) {
			return api.Tx{}, false
		}
		t.Items = append(t.Items, item)
	}
	tail, ok := r.take(kindEnd)
	if !ok || !bytes.Equal(tail, end(n)) {
		return api.Tx{}, false
	}
	return t, true
}

// take takes the payload of the frame that stands next, if it is of that kind.
func (r *reader) take(kind int) ([]byte, bool) {
	f, e := frame.At(r.file, r.used)
	if e != api.OK || f.Kind != kind {
		return nil, false
	}
	r.used += f.Len
	return f.Payload, true
}

// begun is how many items come behind what stands ahead of those of the transaction with that number.
func begun(head []byte, n int) (int, bool) {
	s := octet.NewSource(head)
	number, count := s.U(numberSize), s.U(countSize)
	if s.Done() != api.OK || number != uint64(n) || count > maxItems {
		return 0, false
	}
	return int(count), true
}
