package mbox

import (
	"pigeonhole/api"
	"pigeonhole/quota"
	"pigeonhole/record"
)

// Take takes a record.
func (m *Mailbox) Take(r api.Rec) bool {
	if record.Check(r) != api.OK {
		return false
	}
	switch r.Kind {
	case api.RecMsg:
		return m.come(r)
	case api.RecGone:
		return m.leave(r.Uid)
	case api.RecFlag:
		return m.flag(r.Uid, r.Flags)
	}
	return false
}

// come takes a message, which is right.
func (m *Mailbox) come(r api.Rec) bool {
	if _, there := m.entries[r.Uid]; there {
		return false
	}
	use, ok := quota.Put(m.use, r.Size)
	if !ok {
		return false
	}
	m.use = use
	m.entries[r.Uid] = api.Entry{Uid: r.Uid, Time: r.Time, Flags: r.Flags, Body: r.Body, Size: r.Size, Origin: r.Origin}
	m.note(r.Origin, r.Uid)
	m.Raise(r.Uid + 1)
	return true
}

// note keeps an origin's least number.
func (m *Mailbox) note(origin, uid int) {
	// A message with the origin 0 is from no job, and isn't looked for.
	if origin == 0 {
		return
	}
	if least, there := m.origins[origin]; !there || uid < least {
		m.origins[origin] = uid
	}
}

// leave lets a message be gone.
func (m *Mailbox) leave(uid int) bool {
	e, ok := m.live(uid)
	if !ok {
		return false
	}
	// What came to the use can be taken from it.
	m.use, _ = quota.Take(m.use, e.Size)
	e.Gone, e.Flags = true, 0
	m.entries[uid] = e
	return true
}

// flag gives a message its flags.
func (m *Mailbox) flag(uid, flags int) bool {
	e, ok := m.live(uid)
	if !ok {
		return false
	}
	e.Flags = flags
	m.entries[uid] = e
	return true
}

// live is the live entry with a number.
func (m *Mailbox) live(uid int) (api.Entry, bool) {
	e, ok := m.entries[uid]
	return e, ok && !e.Gone
}
