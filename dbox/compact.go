package dbox

import (
	"slices"

	"pigeonhole/api"
	"pigeonhole/record"
	"pigeonhole/safe"
)

// Compact puts records in the place of all containers.
func (b *Box) Compact(l []api.Rec) api.Errno {
	if b.Last() == maxSeq || slices.ContainsFunc(l, isRefused) {
		return api.ErrArg
	}
	seq := b.Last() + 1
	data, e := written(b.head(seq, seq), l)
	if e != api.OK {
		return e
	}
	if e := safe.Swap(b.disk, Name(b.user, seq), data); e != api.OK {
		return e
	}
	elder := b.seqs
	b.seqs, b.places, b.broken = nil, nil, 0
	b.take(containerOf(seq, data))
	b.drop(elder)
	return api.OK
}

// written is the bytes of a container with a head and records.
func written(head api.Rec, l []api.Rec) ([]byte, api.Errno) {
	data, e := record.Frame(head)
	if e != api.OK {
		return nil, e
	}
	for _, r := range l {
		f, e := record.Frame(r)
		if e != api.OK {
			return nil, e
		}
		if len(data)+len(f) > api.MaxDisk {
			return nil, api.ErrLarge
		}
		data = append(data, f...)
	}
	return data, api.OK
}

// drop takes containers away that tell nothing any more; those that stay for an error go when the box is opened again.
func (b *Box) drop(seqs []int) {
	for _, seq := range seqs {
		if safe.Drop(b.disk, Name(b.user, seq)) != api.OK {
			return
		}
	}
}
