package head

import (
	"bytes"
	"strings"

	"pigeonhole/api"
)

// Split is a message's fields and body.
func Split(msg []byte) (l []api.Field, body []byte, ok bool) {
	n, end, ok := measure(msg)
	if !ok {
		return nil, nil, false
	}
	for rest := msg[:n]; len(rest) > 0; {
		size := fieldSize(rest)
		l = append(l, readField(rest[:size]))
		rest = rest[size:]
	}
	return l, bytes.Clone(msg[n+end:]), true
}

// Lines is the bytes of a message's head.
func Lines(msg []byte) []byte {
	n, _, _ := measure(msg)
	if n == 0 {
		return nil
	}
	return bytes.Clone(msg[:n])
}

// measure is how many bytes a message's fields have, and how many the end of the head behind them, and whether there is a head at all.
func measure(msg []byte) (fields, end int, ok bool) {
	if len(msg) == 0 {
		return 0, 0, true
	}
	n := 0
	for size := fieldSize(msg); size > 0; size = fieldSize(msg[n:]) {
		n += size
	}
	if !ended(msg[n:]) {
		return 0, 0, false
	}
	return n, len(lineEnd), true
}

// fieldSize is how many bytes the field has with which bytes begin, its lines' ends counted; 0, if they begin with none.
func fieldSize(b []byte) int {
	n := run(b, inName)
	if n == 0 || n == len(b) || b[n] != ':' {
		return 0
	}
	n++
	for {
		// No byte of a line's end may stand in a value, so that the text up to it is right just if all bytes ahead of it may.
		n += run(b[n:], inValue)
		if !ended(b[n:]) {
			return 0
		}
		n += len(lineEnd)
		if n == len(b) || !isBlank(b[n]) {
			return n
		}
	}
}

// ended tells whether bytes begin with a line's end.
func ended(b []byte) bool {
	return bytes.HasPrefix(b, []byte(lineEnd))
}

// readField is the field of its bytes, as they stand in a message.
func readField(b []byte) api.Field {
	name, text, _ := strings.Cut(string(b), ":")
	value := strings.TrimLeft(strings.ReplaceAll(text, lineEnd, ""), blanks)
	return api.Field{Name: name, Value: value}
}
