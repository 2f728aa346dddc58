package index

import (
	"pigeonhole/api"
	"pigeonhole/mbox"
	"pigeonhole/octet"
)

// What an item begins with: of how much there is, or of flags.
const (
	itemUse   = 1
	itemFlags = 2
)

// In how many bytes the numbers of an item stand.
const (
	kindSize  = 1
	useSize   = 8
	uidSize   = 4
	flagsSize = 1
)

// mostFlags is how many messages' flags a snapshot has in an item.
const mostFlags = 500

// useItem tells how much a mailbox has.
func useItem(m *mbox.Mailbox) []byte {
	u := m.Use()
	s := octet.NewSink()
	s.U(itemUse, kindSize)
	s.U(uint64(u.Bytes), useSize)
	s.U(uint64(u.Count), useSize)
	s.U(uint64(m.Next()), uidSize)
	return s.Bytes()
}

// flagsItem tells the flags of entries.
func flagsItem(l ...api.Entry) []byte {
	s := octet.NewSink()
	s.U(itemFlags, kindSize)
	for _, e := range l {
		s.U(uint64(e.Uid), uidSize)
		s.U(uint64(e.Flags), flagsSize)
	}
	return s.Bytes()
}

// snapshot is the items that tell all of a mailbox that a log has to tell.
func snapshot(m *mbox.Mailbox) [][]byte {
	items := [][]byte{useItem(m)}
	l := m.List(false)
	for len(l) > 0 {
		n := min(len(l), mostFlags)
		items = append(items, flagsItem(l[:n]...))
		l = l[n:]
	}
	return items
}

// flagsIn is the flags that an item tells, as records; none, if it is none of flags.
func flagsIn(item []byte) []api.Rec {
	s := octet.NewSource(item)
	if s.U(kindSize) != itemFlags || s.Left()%(uidSize+flagsSize) != 0 {
		return nil
	}
	var l []api.Rec
	for s.Left() > 0 {
		uid, flags := int(s.U(uidSize)), int(s.U(flagsSize))
		l = append(l, api.Rec{Kind: api.RecFlag, Uid: uid, Flags: flags})
	}
	return l
}
