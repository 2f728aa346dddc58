package record

import (
	"pigeonhole/api"
)

// The fields of a record that are numbers, but for its kind.
const (
	user = iota
	seq
	next
	base
	uid
	time
	flags
	body
	size
	origin
	count // how many there are
)

// What bounds fields, where package api has no limit for it.
const (
	maxFlags  = 31
	maxOrigin = 1 << 53
)

// numbers are a record's fields, but for its kind and data; as an array they can be held against others at once.
type numbers [count]int

// form is in how many bytes a field stands, and from where to where it goes.
type form struct {
	size, least, most int
}

// forms are those of all fields, each the same in all kinds that tell it.
var forms = [count]form{
	user:   {2, 1, api.MaxNumber},
	seq:    {4, 1, api.MaxUid},
	next:   {4, 1, api.MaxUid + 1},
	base:   {4, 0, api.MaxUid},
	uid:    {4, 1, api.MaxUid},
	time:   {8, 0, api.MaxTime},
	flags:  {1, 0, maxFlags},
	body:   {4, 1, api.MaxUid},
	size:   {4, 0, api.MaxMsg},
	origin: {8, 0, maxOrigin},
}

// told are the fields that a kind tells, in their order; none, if that is no kind.
func told(kind int) []int {
	switch kind {
	case api.RecHead:
		return []int{user, seq, next, base}
	case api.RecMsg:
		return []int{uid, time, flags, body, size, origin}
	case api.RecGone:
		return []int{uid}
	case api.RecFlag:
		return []int{uid, flags}
	case api.RecSeal:
		return []int{next}
	case api.RecBody:
		return []int{body}
	}
	return nil
}

// outside tells whether a field can't have that number.
func outside(field, n int) bool {
	return n < forms[field].least || n > forms[field].most
}

// bytesOf is how many bytes fields have.
func bytesOf(fields []int) int {
	sum := 0
	for _, f := range fields {
		sum += forms[f].size
	}
	return sum
}

// numbersOf are a record's.
func numbersOf(r api.Rec) numbers {
	return numbers{
		user:   r.User,
		seq:    r.Seq,
		next:   r.Next,
		base:   r.Base,
		uid:    r.Uid,
		time:   r.Time,
		flags:  r.Flags,
		body:   r.Body,
		size:   r.Size,
		origin: r.Origin,
	}
}

// recordOf is the record with these.
func recordOf(kind int, n numbers, data []byte) api.Rec {
	return api.Rec{
		Kind:   kind,
		User:   n[user],
		Seq:    n[seq],
		Next:   n[next],
		Base:   n[base],
		Uid:    n[uid],
		Time:   n[time],
		Flags:  n[flags],
		Body:   n[body],
		Size:   n[size],
		Origin: n[origin],
		Data:   data,
	}
}
