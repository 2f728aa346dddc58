package dbox

import (
	"slices"

	"pigeonhole/api"
	"pigeonhole/frame"
	"pigeonhole/record"
	"pigeonhole/safe"
)

// end is what the last container ends with, as it stands on the disk.
type end struct {
	size          int
	clean, sealed bool
}

// Put puts a record into the last container.
func (b *Box) Put(r api.Rec) (api.Place, api.Errno) {
	if b.Last() == maxSeq || isRefused(r) {
		return api.Place{}, api.ErrArg
	}
	if e := b.makeRoom(); e != api.OK {
		return api.Place{}, e
	}
	at, e := b.add(r)
	if e != api.OK {
		return api.Place{}, e
	}
	// Data without bytes would be kept with the memory that they came in.
	r.Data = nil
	p := api.Place{Seq: b.Last(), At: at, Rec: r}
	b.places = append(b.places, p)
	b.next = max(b.next, r.Uid+1)
	b.known = at
	return p, api.OK
}

// isRefused tells whether a record isn't one to be put.
func isRefused(r api.Rec) bool {
	return !isPut(r.Kind) || record.Check(r) != api.OK
}

// makeRoom sees to it that a record can be put behind the last container's bytes, by a new one, if it must be.
func (b *Box) makeRoom() api.Errno {
	x := b.end()
	full := x.size >= b.bound
	if x.clean && !full && !b.isReplaced() {
		return api.OK
	}
	if x.clean && full && !x.sealed {
		if _, e := b.add(api.Rec{Kind: api.RecSeal, Next: b.next}); e != api.OK {
			return e
		}
	}
	return b.addContainer()
}

// end looks at the last container; of none, and of one that can't be read, it has no bytes, and so isn't clean.
func (b *Box) end() end {
	name := Name(b.user, b.Last())
	size, _ := b.disk.Size(name)
	// From a place on where a record begins the same records are found as from the beginning on: none goes over from ahead. So not all must be read each time.
	rest, _ := b.disk.ReadAt(name, b.known, size-b.known)
	c := containerOf(b.Last(), rest)
	return end{size: size, clean: c.clean(), sealed: c.last().Rec.Kind == api.RecSeal}
}

// isReplaced tells whether the container behind the last one was put in the place of all: a Compact may have come to this, though the power went ahead of its answer. What was put into the elder ones then would be lost.
func (b *Box) isReplaced() bool {
	seq := b.Last() + 1
	data, _ := b.disk.Read(Name(b.user, seq))
	return containerOf(seq, data).base() > b.Last()
}

// addContainer makes one more container.
func (b *Box) addContainer() api.Errno {
	seq := b.Last() + 1
	data, e := record.Frame(b.head(seq, 0))
	if e != api.OK {
		return e
	}
	if e := safe.Make(b.disk, Name(b.user, seq), data); e != api.OK {
		return e
	}
	b.take(containerOf(seq, data))
	return api.OK
}

// head is the head of a container that is to be made.
func (b *Box) head(seq, base int) api.Rec {
	return api.Rec{Kind: api.RecHead, User: b.user, Seq: seq, Next: b.next, Base: base}
}

// add puts a record behind the last container's bytes, and tells where it begins.
func (b *Box) add(r api.Rec) (int, api.Errno) {
	data, e := record.Frame(r)
	if e != api.OK {
		return 0, e
	}
	name := Name(b.user, b.Last())
	at, _ := b.disk.Size(name)
	return at, safe.Append(b.disk, name, data)
}

// Get is the record that stands at a place.
func (b *Box) Get(p api.Place) (api.Rec, api.Errno) {
	data, e := b.disk.Read(Name(b.user, p.Seq))
	if e != api.OK {
		return api.Rec{}, e
	}
	isThere := func(q api.Place) bool { return q.Seq == p.Seq && q.At == p.At }
	if !slices.ContainsFunc(b.places, isThere) {
		return api.Rec{}, api.ErrNone
	}
	f, e := frame.At(data, p.At)
	if e != api.OK {
		return api.Rec{}, api.ErrBroken
	}
	r, e := record.Read(f.Kind, f.Payload)
	if e != api.OK {
		return api.Rec{}, api.ErrBroken
	}
	return r, api.OK
}
