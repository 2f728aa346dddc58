package cmd

import (
	"strconv"
	"strings"

	"pigeonhole/api"
)

// The names of parameters that are known, and the values of BODY.
const (
	sizeName  = "SIZE"
	bodyName  = "BODY"
	sevenBits = "7BIT"
	eightBits = "8BITMIME"
)

// The greatest SIZE, and how many digits it may have.
const (
	mostSize   = 1 << 53
	mostDigits = 20
)

// names is the names of parameters that were seen, in great letters.
type names map[string]struct{}

// readParams reads what stands behind a path into a command; it answers a code, or 0.
func readParams(c *api.Cmd, rest string) int {
	// Each parameter has a blank ahead of it, so that nothing stands ahead of the first blank.
	pieces := strings.Split(rest, " ")
	if pieces[0] != "" {
		return badForm
	}
	seen := names{}
	for _, piece := range pieces[1:] {
		if code := readParam(c, piece, seen); code != 0 {
			return code
		}
	}
	return 0
}

// readParam reads a parameter into a command; it answers a code, or 0.
func readParam(c *api.Cmd, piece string, seen names) int {
	name, value, told := strings.Cut(piece, "=")
	if !spelt(name, inName()) || told && !spelt(value, visible("=")) {
		return badForm
	}
	name = great(name)
	if _, again := seen[name]; again {
		return badForm
	}
	seen[name] = struct{}{}
	switch {
	case c.Verb == api.Mail && name == sizeName:
		return readSize(c, value)
	case c.Verb == api.Mail && name == bodyName:
		return readBody(c, value)
	}
	return badParam
}

// readSize reads SIZE's value into a command; it answers a code, or 0.
func readSize(c *api.Cmd, value string) int {
	n, err := strconv.ParseUint(value, 10, 64)
	if err != nil || n > mostSize || len(value) > mostDigits {
		return badForm
	}
	c.Size = int(n)
	return 0
}

// readBody reads BODY's value into a command; it answers a code, or 0.
func readBody(c *api.Cmd, value string) int {
	switch great(value) {
	case sevenBits:
		c.Body = 7
	case eightBits:
		c.Body = 8
	default:
		return badForm
	}
	return 0
}

// sizeText is SIZE as it is written.
func sizeText(size int) string {
	if size == -1 {
		return ""
	}
	return " " + sizeName + "=" + strconv.Itoa(size)
}

// bodyText is BODY as it is written.
func bodyText(body int) string {
	switch body {
	case 7:
		return " " + bodyName + "=" + sevenBits
	case 8:
		return " " + bodyName + "=" + eightBits
	}
	return ""
}
