package cmd

import (
	"strings"

	"pigeonhole/addr"
	"pigeonhole/api"
)

// readRest reads what stands behind a verb into its command; it answers a code, or 0.
func readRest(c *api.Cmd, rest string, blank bool) int {
	if pathed(c.Verb) {
		return readPath(c, rest)
	}
	return readArg(c, rest, blank)
}

// readArg reads a rest that is an argument, or nothing, into a command; it answers a code, or 0.
func readArg(c *api.Cmd, rest string, blank bool) int {
	ok := true
	switch c.Verb {
	case api.Helo, api.Ehlo, api.Lhlo:
		ok = addr.Domain(rest) || literal(rest)
	case api.Data, api.Rset, api.Quit:
		ok = !blank
	case api.Vrfy:
		ok = rest != ""
	}
	if !ok {
		return badForm
	}
	c.Arg = strings.Clone(rest)
	return 0
}

// literal tells whether a text is what may stand in place of a greeting's domain.
func literal(s string) bool {
	inner, opened := strings.CutPrefix(s, "[")
	inner, closed := strings.CutSuffix(inner, "]")
	return opened && closed && spelt(inner, visible("[]\\"))
}

// pathed tells whether a verb's rest has a path.
func pathed(verb int) bool {
	return verb == api.Mail || verb == api.Rcpt
}

// mark is what stands ahead of a verb's path.
func mark(verb int) string {
	if verb == api.Mail {
		return "FROM:"
	}
	return "TO:"
}

// readPath reads a rest that has a path into a command; it answers a code, or 0.
func readPath(c *api.Cmd, rest string) int {
	n := len(mark(c.Verb))
	if len(rest) < n || great(rest[:n]) != mark(c.Verb) {
		return badForm
	}
	rest = rest[n:]
	path, n, e := addr.Read(rest, c.Verb == api.Mail)
	if e != api.OK {
		return badForm
	}
	c.Path, c.Null = path, path == api.Addr{}
	return readParams(c, rest[n:])
}
