package safe

import (
	"pigeonhole/api"
	"pigeonhole/vdisk"
)

// step is a call of a disk that is still to be made.
type step func() api.Errno

// with is the step of a call of a disk that takes a name.
func with(call func(name string) api.Errno, name string) step {
	return func() api.Errno { return call(name) }
}

// appending is the step that puts bytes behind a file's.
func appending(d *vdisk.Disk, name string, b []byte) step {
	return func() api.Errno { return d.Append(name, b) }
}

// twice is a step that is done once more, if it fails while the power is there.
func twice(s step) step {
	return func() api.Errno {
		e := s()
		if e == api.OK || e == api.ErrDown {
			return e
		}
		return s()
	}
}

// inTurn does steps one behind the other, and is the first error, which ends it.
func inTurn(steps ...step) api.Errno {
	for _, s := range steps {
		if e := s(); e != api.OK {
			return e
		}
	}
	return api.OK
}

// takeBack takes the name from a file that didn't come to its end with an error. What comes of it says nothing: that error is what is told.
func takeBack(d *vdisk.Disk, name string, e api.Errno) {
	if e != api.ErrDown {
		twice(with(d.Unlink, name))()
	}
}
