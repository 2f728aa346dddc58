package head

import (
	"strings"

	"pigeonhole/api"
)

// width is how many bytes a line has at most, its end not counted, where it can be folded.
const width = 78

// firstFold is the first place of a line that a fold is put at; one ahead of it would leave no more than a blank in the line.
const firstFold = 2

// Build is a message of fields and a body.
func Build(l []api.Field, body []byte) ([]byte, api.Errno) {
	for _, f := range l {
		if !Good(f) {
			return nil, api.ErrForm
		}
	}
	var b []byte
	for _, f := range l {
		b = appendField(b, f)
	}
	b = append(b, lineEnd...)
	return append(b, body...), api.OK
}

// appendField is bytes, and behind them a field as it is written.
func appendField(b []byte, f api.Field) []byte {
	line := f.Name + ": " + f.Value
	from := len(line) - len(f.Value)
	// Ahead of the blanks at the value's end nothing is folded: they would be all that the last line has.
	end := from + len(strings.TrimRight(f.Value, blanks))
	for len(line) > width {
		at := foldAt(line[:end], from)
		if at < 0 {
			break
		}
		b = append(append(b, line[:at]...), lineEnd...)
		line, end, from = line[at:], end-at, firstFold
	}
	return append(append(b, line...), lineEnd...)
}

// foldAt is the place of the blank ahead of which a line is folded, none ahead of from; -1, if there is none.
func foldAt(line string, from int) int {
	near := min(max(from, width+1), len(line))
	if i := strings.LastIndexByte(line[from:near], ' '); i >= 0 {
		return from + i
	}
	if i := strings.IndexByte(line[near:], ' '); i >= 0 {
		return near + i
	}
	return -1
}
