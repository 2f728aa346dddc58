package dbox

import (
	"strconv"
	"strings"

	"pigeonhole/api"
	"pigeonhole/record"
	"pigeonhole/vdisk"
)

// maxSeq is the greatest number of a container; the others are in how many digits a name has the numbers.
const (
	maxSeq     = 99_999_999
	userDigits = 3
	seqDigits  = 8
)

// container is a container's number, how many bytes it has, and what was found in them.
type container struct {
	seq, size int
	found     []api.Found
	broken    int
}

// Name is a container's.
func Name(user, seq int) string {
	if !isUser(user) || seq < 1 || seq > maxSeq {
		return ""
	}
	return beginning(user) + digits(seq, seqDigits)
}

// beginning is how the names of a user's containers begin.
func beginning(user int) string {
	return "c" + digits(user, userDigits) + "-"
}

// digits writes a number with so many digits at least.
func digits(n, least int) string {
	s := strconv.Itoa(n)
	return strings.Repeat("0", max(0, least-len(s))) + s
}

// isUser tells whether a number may be a user's.
func isUser(n int) bool {
	return n >= 1 && n <= api.MaxNumber
}

// isPut tells whether a kind is one of those that are put into containers to be found again.
func isPut(kind int) bool {
	return kind == api.RecMsg || kind == api.RecGone || kind == api.RecFlag
}

// containersOf are a user's, rising, as a disk has them.
func containersOf(d *vdisk.Disk, user int) ([]container, api.Errno) {
	seqs, e := seqsOf(d, user)
	if e != api.OK {
		return nil, e
	}
	var l []container
	for _, seq := range seqs {
		b, e := d.Read(Name(user, seq))
		if e != api.OK {
			return nil, e
		}
		l = append(l, containerOf(seq, b))
	}
	return l, api.OK
}

// seqsOf are the numbers of a user's containers, rising.
func seqsOf(d *vdisk.Disk, user int) ([]int, api.Errno) {
	var l []int
	// With as many digits in each, the names rise as the numbers do.
	for _, name := range d.Names() {
		rest, has := strings.CutPrefix(name, beginning(user))
		if !has {
			continue
		}
		seq, err := strconv.Atoi(rest)
		// A number can be written in other ways than the one of the name.
		if err != nil || Name(user, seq) != name {
			return nil, api.ErrBroken
		}
		l = append(l, seq)
	}
	return l, api.OK
}

// containerOf is the container with that number and these bytes.
func containerOf(seq int, b []byte) container {
	found, broken := record.Scan(b)
	return container{seq: seq, size: len(b), found: found, broken: broken}
}

// last is the last record that was found, one of no kind and without bytes if none was.
func (c container) last() api.Found {
	if len(c.found) == 0 {
		return api.Found{}
	}
	return c.found[len(c.found)-1]
}

// clean tells whether there are bytes, and end with the last record's.
func (c container) clean() bool {
	return c.size > 0 && c.last().At+c.last().Len == c.size
}

// base is the number of the first container that still tells something, as far as this one says so.
func (c container) base() int {
	base := 0
	for _, f := range c.found {
		// What is no head has no Base.
		base = max(base, f.Rec.Base)
	}
	return base
}

// next is the number that no record has come to yet.
func (c container) next() int {
	next := 1
	for _, f := range c.found {
		// What is neither a head nor a seal has no Next, and these have no Uid.
		next = max(next, f.Rec.Next, f.Rec.Uid+1)
	}
	return next
}
