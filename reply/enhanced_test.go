package reply

import (
	"regexp"
	"strconv"
	"strings"
	"testing"
)

// many is a text so often in a row.
func many(s string, n int) string {
	return strings.Repeat(s, n)
}

// one is the text of one byte, even if that is no rune.
func one(v int) string {
	return string([]byte{byte(v)})
}

// each calls with all texts of up to n of these pieces.
func each(pieces []string, n int, call func(s string)) {
	call("")
	if n == 0 {
		return
	}
	for _, p := range pieces {
		each(pieces, n-1, func(s string) { call(p + s) })
	}
}

// plainForm is what an enhanced code looks like.
var plainForm = regexp.MustCompile(`\A([245])\.(0|[1-9][0-9]{0,2})\.(0|[1-9][0-9]{0,2})\z`)

// plainEnhanced are an enhanced code's numbers, by the chapter's words; none, if it is none.
func plainEnhanced(s string) []int {
	var l []int
	for _, m := range plainForm.FindAllStringSubmatch(s, -1) {
		for _, piece := range m[1:] {
			n, _ := strconv.Atoi(piece)
			l = append(l, n)
		}
	}
	return l
}

// enhanced fails, unless a text is an enhanced code of these numbers; without numbers, unless it is none.
func enhanced(t *testing.T, s string, want ...int) {
	t.Helper()
	class, subject, detail, ok := Enhanced(s)
	is := len(want) == 3
	if !is {
		want = []int{0, 0, 0}
	}
	if class != want[0] || subject != want[1] || detail != want[2] || ok != is {
		t.Fatalf("Enhanced(%.99q): %d %d %d %v, not %v", s, class, subject, detail, ok, want)
	}
}

// P8.1: enhanced codes tell their numbers.
func TestEnhanced(t *testing.T) {
	for s, want := range map[string][]int{
		"2.0.0": {2, 0, 0}, "2.1.0": {2, 1, 0}, "4.2.2": {4, 2, 2}, "5.1.1": {5, 1, 1}, "5.7.999": {5, 7, 999}, "5.999.999": {5, 999, 999}, "4.999.0": {4, 999, 0},
		"2.10.20": {2, 10, 20}, "5.7.10": {5, 7, 10}, "5.100.100": {5, 100, 100}, "4.101.110": {4, 101, 110}, "5.123.45": {5, 123, 45}, "2.9.99": {2, 9, 99},
	} {
		enhanced(t, s, want...)
	}
}

// P8.1: what is no enhanced code tells noughts and false.
func TestEnhancedNone(t *testing.T) {
	for _, s := range []string{
		"", ".", "..", "...", "2", "2.", "2.0", "2.0.", "2..0", ".0.0", "2.0.0.", "2.0.0.0", ".2.0.0", "2...0", "200", "2,0,0", "2.0,0", "2-0-0", "2 0 0", "2:0.0",
		"0.0.0", "1.0.0", "3.0.0", "6.0.0", "7.0.0", "8.0.0", "9.0.0", "22.0.0", "02.0.0", "20.0.0", "25.0.0", "+2.0.0", "-2.0.0", "a.0.0", "x2.0.0", "\u0665.0.0",
		"2.00.0", "2.01.0", "2.0.00", "2.0.01", "2.000.0", "2.0.000", "2.010.0", "2.0.007", "2.1000.0", "2.0.1000", "2.0000.0", "2.0.0001", "2.0.99999999999999999999", "2.18446744073709551616.0",
		"2.-1.0", "2.+1.0", "2.0.-1", "2.0.+1", "2.-0.0", "2.0.-0", "2.0x1.0", "2.0.1e2", "2.1_0.0", "2.0.0x", "2.a.0", "2.0.a", "2.0.\u0661", "2.\x00.0",
		" 2.0.0", "2.0.0 ", "2. 0.0", "2 .0.0", "2.0. 0", "2.0.0\n", "2.0.0\r\n", "\n2.0.0", "2.0.0\x00", "2.0.0 2.0.0", "\xff.0.0",
		many("2", 100000), many(".", 100000), many("2.", 100000), "2." + many("0", 100000) + ".0", "2.0." + many("1", 100000), "2.0.0" + many(".0", 100000),
	} {
		enhanced(t, s)
	}
}

// P8.1: all texts of few digits and points are enhanced codes as the chapter's words tell.
func TestEnhancedAllShort(t *testing.T) {
	each([]string{"0", "1", "2", "5", "."}, 7, func(s string) { enhanced(t, s, plainEnhanced(s)...) })
}

// P8.1: all numbers, as each of the three, with noughts ahead and without.
func TestEnhancedNumbers(t *testing.T) {
	for n := range 1200 {
		s := strconv.Itoa(n)
		for _, code := range []string{s + ".1.1", "4." + s + ".1", "5.1." + s, "0" + s + ".1.1", "4.0" + s + ".1", "5.1.0" + s} {
			enhanced(t, code, plainEnhanced(code)...)
		}
	}
}

// P8.1: each byte in each place of an enhanced code, and between its bytes.
func TestEnhancedEachByte(t *testing.T) {
	const code = "4.78.901"
	for i := range len(code) + 1 {
		for v := range 256 {
			put := code[:i] + one(v) + code[i:]
			enhanced(t, put, plainEnhanced(put)...)
			if i < len(code) {
				over := code[:i] + one(v) + code[i+1:]
				enhanced(t, over, plainEnhanced(over)...)
			}
		}
	}
}
