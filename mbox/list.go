package mbox

import (
	"cmp"
	"slices"

	"pigeonhole/api"
)

// Get is an entry.
func (m *Mailbox) Get(uid int) (api.Entry, bool) {
	e, ok := m.entries[uid]
	return e, ok
}

// List are the entries.
func (m *Mailbox) List(gone bool) []api.Entry {
	var l []api.Entry
	for _, e := range m.entries {
		if gone || !e.Gone {
			l = append(l, e)
		}
	}
	slices.SortFunc(l, func(a, b api.Entry) int { return cmp.Compare(a.Uid, b.Uid) })
	return l
}

// From is the entry of an origin.
func (m *Mailbox) From(origin int) (api.Entry, bool) {
	// An origin that no entry has leads to the number 0, which no entry has either.
	return m.Get(m.origins[origin])
}

// Records are the entries' records.
func (m *Mailbox) Records(gone bool) []api.Rec {
	var l []api.Rec
	for _, e := range m.List(gone) {
		l = append(l, api.Rec{Kind: api.RecMsg, Uid: e.Uid, Time: e.Time, Flags: e.Flags, Body: e.Body, Size: e.Size, Origin: e.Origin})
		if e.Gone {
			l = append(l, api.Rec{Kind: api.RecGone, Uid: e.Uid})
		}
	}
	return l
}

// Bodies are the live entries' bodies.
func (m *Mailbox) Bodies() []int {
	var l []int
	for _, e := range m.entries {
		if !e.Gone {
			l = append(l, e.Body)
		}
	}
	slices.Sort(l)
	return slices.Compact(l)
}
