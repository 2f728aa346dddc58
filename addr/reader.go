package addr

import (
	"strings"

	"pigeonhole/api"
)

// reader goes through a text. What its calls find they go on behind; where one answers false, the text isn't of the form.
type reader struct {
	s  string
	at int
	// large is whether something was longer than may be; the form is looked at to its end all the same.
	large bool
}

// ended tells whether nothing is left.
func (r *reader) ended() bool {
	return r.at == len(r.s)
}

// fault is the error of a text that was of the form, or wasn't.
func (r *reader) fault(formed bool) api.Errno {
	switch {
	case !formed:
		return api.ErrForm
	case r.large:
		return api.ErrLarge
	}
	return api.OK
}

// meets tells whether the next byte is of a kind.
func (r *reader) meets(is kind) bool {
	return !r.ended() && is(r.s[r.at])
}

// take goes on behind a byte of a kind, and tells it.
func (r *reader) take(is kind) (v byte, ok bool) {
	if !r.meets(is) {
		return 0, false
	}
	r.at++
	return r.s[r.at-1], true
}

// pass goes on behind a byte.
func (r *reader) pass(v byte) bool {
	_, ok := r.take(span(v, v))
	return ok
}

// run goes on behind all bytes of a kind, one at least.
func (r *reader) run(is kind) bool {
	from := r.at
	for r.meets(is) {
		r.at++
	}
	return r.at > from
}

// parted goes on behind parts, one at least, with a byte between two of them.
func (r *reader) parted(by byte, part func() bool) bool {
	for part() {
		if !r.pass(by) {
			return true
		}
	}
	return false
}

// atoms goes on behind atoms with points between.
func (r *reader) atoms() bool {
	is := inAtom()
	return r.parted('.', func() bool { return r.run(is) })
}

// things goes on behind things and the quote that ends them, and tells what they tell.
func (r *reader) things() (string, bool) {
	var told []byte
	is := printable()
	for !r.pass(quote) {
		// What stands behind an escape is told, be it a quote or an escape.
		r.pass(escape)
		v, ok := r.take(is)
		if !ok {
			return "", false
		}
		told = append(told, v)
	}
	return string(told), len(told) > 0
}

// local goes on behind a local part, and tells what it tells.
func (r *reader) local() (told string, ok bool) {
	if r.pass(quote) {
		told, ok = r.things()
	} else {
		from := r.at
		ok = r.atoms()
		told = strings.Clone(r.s[from:r.at])
	}
	r.large = r.large || len(told) > api.MaxLocal
	return told, ok
}

// domain goes on behind labels with points between.
func (r *reader) domain() bool {
	from, is := r.at, inLabel()
	ok := r.parted('.', func() bool {
		first := r.at
		return r.run(is) && r.s[first] != '-' && r.s[r.at-1] != '-'
	})
	r.large = r.large || r.at-from > api.MaxDomain
	return ok
}

// mailbox goes on behind a mailbox, and tells it.
func (r *reader) mailbox() (api.Addr, bool) {
	local, ok := r.local()
	if !ok || !r.pass('@') {
		return api.Addr{}, false
	}
	from := r.at
	if !r.domain() {
		return api.Addr{}, false
	}
	return api.Addr{Local: local, Domain: strings.Clone(r.s[from:r.at])}, true
}

// route goes on behind a route, if there is one.
func (r *reader) route() bool {
	if !r.meets(among("@")) {
		return true
	}
	hop := func() bool { return r.pass('@') && r.domain() }
	return r.parted(',', hop) && r.pass(':')
}

// path goes on behind a path, and tells its mailbox.
func (r *reader) path(null bool) (api.Addr, bool) {
	if null && strings.HasPrefix(r.s, nullPath) {
		r.at = len(nullPath)
		return api.Addr{}, true
	}
	if !r.pass('<') || !r.route() {
		return api.Addr{}, false
	}
	a, ok := r.mailbox()
	return a, ok && r.pass('>')
}
