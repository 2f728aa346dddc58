package dsn

import (
	"bytes"
	"iter"
	"strconv"
)

// lineEnd is what each line ends with.
const lineEnd = "\r\n"

// markAhead is what each mark begins with, dashes what stands ahead of it in a line, and behind it too in the last one.
const (
	markAhead = "ph-"
	dashes    = "--"
)

// Mark is a line's beginning that no line has.
func Mark(id string, head []byte) string {
	ahead := markAhead + id + "-"
	// Each number that is taken has a digit of its own in the head, so that the least one that isn't is no greater than the head has bytes.
	most := len(head)
	taken := map[int]struct{}{}
	for line := range lines(head) {
		digits, ok := bytes.CutPrefix(line, []byte(dashes+ahead))
		if !ok {
			continue
		}
		for _, n := range numbers(digits, most) {
			taken[n] = struct{}{}
		}
	}
	for n := 0; ; n++ {
		if _, is := taken[n]; !is {
			return ahead + strconv.Itoa(n)
		}
	}
}

// numbers is all numbers up to a greatest one with whose digits bytes begin.
func numbers(b []byte, most int) []int {
	var l []int
	n := 0
	for _, v := range b {
		if !isDigit(v) {
			break
		}
		n = 10*n + int(v-'0')
		if n > most {
			break
		}
		l = append(l, n)
		if n == 0 {
			// No digits of another number begin with a nought.
			break
		}
	}
	return l
}

// Parts is what stands between marks.
func Parts(body []byte, mark string) ([][]byte, bool) {
	start, end := dashes+mark, dashes+mark+dashes
	var parts [][]byte
	over := false
	for line, ended := range lines(body) {
		starts := string(line) == start
		if !ended || over || len(parts) == 0 && !starts {
			return nil, false
		}
		switch {
		case starts:
			parts = append(parts, nil)
		case string(line) == end:
			over = true
		default:
			last := len(parts) - 1
			parts[last] = append(append(parts[last], line...), lineEnd...)
		}
	}
	if !over {
		return nil, false
	}
	return parts, true
}

// lines goes through bytes line by line: each without its end, and whether it has one, which the last one may lack.
func lines(b []byte) iter.Seq2[[]byte, bool] {
	return func(see func(line []byte, ended bool) bool) {
		for rest := b; len(rest) > 0; {
			line, behind, ended := bytes.Cut(rest, []byte(lineEnd))
			if !see(line, ended) {
				return
			}
			rest = behind
		}
	}
}
