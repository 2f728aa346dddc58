package users

import (
	"pigeonhole/api"
	"pigeonhole/octet"
)

// reader takes what a table's bytes tell. Where they can't be read, its calls give up by panic, which Read catches: so none of them has to ask whether the one ahead of it came to its end.
type reader struct {
	s *octet.Source
}

// check gives up, if the source did.
func (r *reader) check() {
	if e := r.s.Err(); e != api.OK {
		panic(e)
	}
}

// number takes a number.
func (r *reader) number(size int) int {
	n := int(r.s.U(size))
	r.check()
	return n
}

// bound takes a part of a limit.
func (r *reader) bound() int {
	n := r.s.I(limitSize)
	r.check()
	return n
}

// text takes a text.
func (r *reader) text() string {
	s := r.s.Text(longestText)
	r.check()
	return s
}

// user takes a user.
func (r *reader) user() api.User {
	var u api.User
	u.Number = r.number(numberSize)
	u.Name = r.text()
	u.Limit.Bytes = r.bound()
	u.Limit.Count = r.bound()
	return u
}

// alias takes an alias.
func (r *reader) alias() api.Alias {
	a := api.Alias{Name: r.text()}
	for range r.number(countSize) {
		a.To = append(a.To, r.text())
	}
	return a
}

// readTold takes what is told of a table.
func readTold(r *reader) told {
	var x told
	x.domain = r.text()
	x.next = r.number(numberSize)
	for range r.number(countSize) {
		x.users = append(x.users, r.user())
	}
	for range r.number(countSize) {
		x.aliases = append(x.aliases, r.alias())
	}
	return x
}
