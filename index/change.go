package index

import (
	"bytes"

	"pigeonhole/api"
	"pigeonhole/quota"
	"pigeonhole/record"
)

// Deliver puts a message into the mailbox.
func (x *Index) Deliver(time, flags, body, size, origin int) (int, api.Errno) {
	if e := x.refresh(); e != api.OK {
		return 0, e
	}
	r := x.mail.Make(time, flags, body, size, origin)
	// A new number stands in nobody's way, so that only the use can.
	if _, fits := quota.Put(x.mail.Use(), size); record.Check(r) == api.OK && !fits {
		return 0, api.ErrQuota
	}
	if e := x.put(r); e != api.OK {
		return 0, e
	}
	return r.Uid, api.OK
}

// Expunge lets a message go.
func (x *Index) Expunge(uid int) api.Errno {
	if e := x.refresh(); e != api.OK {
		return e
	}
	if _, ok := x.live(uid); !ok {
		return api.ErrNone
	}
	return x.put(api.Rec{Kind: api.RecGone, Uid: uid})
}

// live is the live entry with a number.
func (x *Index) live(uid int) (api.Entry, bool) {
	e, ok := x.mail.Get(uid)
	return e, ok && !e.Gone
}

// put puts a record, which the mailbox takes, into the box; a log that was in step goes on with it.
func (x *Index) put(r api.Rec) api.Errno {
	wasTold := x.isTold()
	p, e := x.box.Put(r)
	if x.note(e) != api.OK {
		return e
	}
	x.mail.Take(r)
	if r.Kind == api.RecMsg {
		x.messages[r.Uid] = p
	}
	if wasTold {
		// If this fails, what the log tells last is no longer so: it is behind.
		x.add(useItem(x.mail))
	}
	return api.OK
}

// note keeps in mind whether the power went within a change that answered this, and hands it on.
func (x *Index) note(e api.Errno) api.Errno {
	if e == api.ErrDown {
		x.cut = true
	}
	return e
}

// add puts a transaction behind those of the log.
func (x *Index) add(items ...[]byte) api.Errno {
	e := x.log.Add(items)
	if x.note(e) == api.OK {
		x.last = items[0]
	}
	return e
}

// Flag sets a message's flags.
func (x *Index) Flag(uid, flags int) api.Errno {
	if e := x.refresh(); e != api.OK {
		return e
	}
	entry, ok := x.live(uid)
	if !ok {
		return api.ErrNone
	}
	r := api.Rec{Kind: api.RecFlag, Uid: uid, Flags: flags}
	if e := record.Check(r); e != api.OK {
		return e
	}
	if e := x.Step(); e != api.OK {
		return e
	}
	entry.Flags = flags
	if e := x.add(useItem(x.mail), flagsItem(entry)); e != api.OK {
		return e
	}
	x.mail.Take(r)
	return api.OK
}

// Persist puts flags into the box that it doesn't tell.
func (x *Index) Persist() api.Errno {
	if e := x.refresh(); e != api.OK {
		return e
	}
	told, _ := mailboxOf(x.box)
	for _, entry := range x.mail.List(false) {
		if t, _ := told.Get(entry.Uid); t.Flags == entry.Flags {
			continue
		}
		r := api.Rec{Kind: api.RecFlag, Uid: entry.Uid, Flags: entry.Flags}
		if _, e := x.box.Put(r); x.note(e) != api.OK {
			return e
		}
	}
	return api.OK
}

// Compact leaves out what is gone.
func (x *Index) Compact() api.Errno {
	if e := x.refresh(); e != api.OK {
		return e
	}
	if e := x.box.Compact(x.mail.Records(false)); x.note(e) != api.OK {
		return e
	}
	x.mail, x.messages = mailboxOf(x.box)
	x.compacted = true
	// If this fails, the log counts as behind, and the next Step has it to do.
	x.Step()
	return api.OK
}

// Step brings the log in step.
func (x *Index) Step() api.Errno {
	if e := x.refresh(); e != api.OK {
		return e
	}
	if !x.Behind() {
		return api.OK
	}
	items := snapshot(x.mail)
	if e := x.log.Rotate(items); x.note(e) != api.OK {
		return e
	}
	x.last, x.compacted = items[0], false
	return api.OK
}

// isTold tells whether the log's last transaction is of the mailbox as it is. (A log that is told and isn't whole takes no more transactions.)
func (x *Index) isTold() bool {
	return !x.compacted && bytes.Equal(x.last, useItem(x.mail))
}
