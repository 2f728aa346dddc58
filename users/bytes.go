package users

import (
	"bytes"

	"pigeonhole/api"
	"pigeonhole/octet"
)

// In how many bytes the numbers of users, parts of limits, and how many there are of something stand.
const (
	numberSize = 2
	limitSize  = 8
	countSize  = 1
)

// longestText is how many bytes a text may be told to have where bytes are read.
const longestText = 65536

// Bytes are the table's.
func (t *Table) Bytes() []byte {
	s := octet.NewSink()
	s.Text(t.domain)
	s.U(uint64(t.next), numberSize)
	s.U(uint64(len(t.users)), countSize)
	for u := range t.rising() {
		s.U(uint64(u.Number), numberSize)
		s.Text(u.Name)
		s.I(u.Limit.Bytes, limitSize)
		s.I(u.Limit.Count, limitSize)
	}
	s.U(uint64(len(t.aliases)), countSize)
	for _, a := range t.Aliases() {
		s.Text(a.Name)
		s.U(uint64(len(a.To)), countSize)
		for _, name := range a.To {
			s.Text(name)
		}
	}
	return s.Bytes()
}

// Read is the table whose bytes that is.
func Read(b []byte) (t *Table, e api.Errno) {
	s := octet.NewSource(b)
	defer func() {
		if recover() != nil {
			t, e = nil, fault(s.Err())
		}
	}()
	// All is read ahead of looking whether it is right, since bytes that end too early are told ahead of any that are wrong.
	t = readTold(&reader{s}).table()
	// What stands in another order, or twice, or behind all, may tell a table all the same, but one with other bytes.
	if t == nil || !bytes.Equal(t.Bytes(), b) {
		return nil, api.ErrForm
	}
	return t, api.OK
}

// fault is the error of bytes that couldn't be read, by that of their source.
func fault(e api.Errno) api.Errno {
	if e == api.ErrShort {
		return api.ErrShort
	}
	return api.ErrForm
}

// told is what bytes tell of a table, be it right or not.
type told struct {
	domain  string
	next    int
	users   []api.User
	aliases []api.Alias
}

// table is the table that was told; nil, if there is none.
func (x told) table() *Table {
	t := New(x.domain)
	if t == nil {
		return nil
	}
	for _, u := range x.users {
		if !t.advance(u.Number) {
			return nil
		}
		if _, e := t.AddUser(u.Name, u.Limit); e != api.OK {
			return nil
		}
	}
	if !t.advance(x.next) {
		return nil
	}
	for _, a := range x.aliases {
		if t.AddAlias(a.Name, a.To) != api.OK {
			return nil
		}
	}
	return t
}

// advance makes a number the next one, as if there had been users up to it; it tells whether it may be.
func (t *Table) advance(n int) bool {
	if n < t.next || n > api.MaxNumber+1 {
		return false
	}
	t.next = n
	return true
}
