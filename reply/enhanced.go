package reply

import (
	"strconv"
	"strings"
)

// digits is how many digits a code has, and the most that a number of an enhanced code has.
const digits = 3

// numbers are an enhanced code's: its class, its subject and its detail.
type numbers [3]int

// Enhanced is an enhanced code's numbers.
func Enhanced(s string) (class, subject, detail int, ok bool) {
	n, ok := split(s)
	return n[0], n[1], n[2], ok
}

// split is the numbers of an enhanced code, if a text is one.
func split(s string) (numbers, bool) {
	var n numbers
	// A point too many stands in the last piece, which is no number then.
	pieces := strings.SplitN(s, ".", len(n))
	if len(pieces) != len(n) {
		return numbers{}, false
	}
	for i, piece := range pieces {
		v, ok := number(piece)
		if !ok {
			return numbers{}, false
		}
		n[i] = v
	}
	switch n[0] {
	case 2, 4, 5:
		return n, true
	}
	return numbers{}, false
}

// number is what one to three digits tell, without a nought at their beginning, unless it is alone.
func number(s string) (int, bool) {
	if len(s) > digits {
		return 0, false
	}
	n, err := strconv.Atoi(s)
	// What is written otherwise than it was has a sign or a nought ahead.
	if err != nil || n < 0 || strconv.Itoa(n) != s {
		return 0, false
	}
	return n, true
}

// fits tells whether a text is an enhanced code that fits a code.
func fits(enh string, code int) bool {
	n, ok := split(enh)
	return ok && n[0] == code/100
}
