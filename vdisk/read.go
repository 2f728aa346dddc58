package vdisk

import (
	"maps"
	"slices"

	"pigeonhole/api"
)

// file is the file that has a name.
func (d *Disk) file(name string) (*file, api.Errno) {
	if d.down {
		return nil, api.ErrDown
	}
	f := d.names[name]
	if f == nil {
		return nil, api.ErrNone
	}
	return f, api.OK
}

// Read is a file's bytes.
func (d *Disk) Read(name string) ([]byte, api.Errno) {
	f, e := d.file(name)
	if e != api.OK {
		return nil, e
	}
	return slices.Clone(f.seen), api.OK
}

// ReadAt is some of a file's bytes.
func (d *Disk) ReadAt(name string, at, n int) ([]byte, api.Errno) {
	f, e := d.file(name)
	switch {
	case e != api.OK:
		return nil, e
	case at < 0 || n < 0:
		return nil, api.ErrArg
	case at > len(f.seen) || n > len(f.seen)-at:
		return nil, api.ErrShort
	}
	return slices.Clone(f.seen[at : at+n]), api.OK
}

// Size is how many bytes a file has.
func (d *Disk) Size(name string) (int, api.Errno) {
	f, e := d.file(name)
	if e != api.OK {
		return 0, e
	}
	return len(f.seen), api.OK
}

// Names are all names, rising.
func (d *Disk) Names() []string {
	if d.down {
		return nil
	}
	return slices.Sorted(maps.Keys(d.names))
}

// Used is the bytes of all files with names.
func (d *Disk) Used() int {
	if d.down {
		return 0
	}
	used := 0
	for _, f := range d.names {
		used += len(f.seen)
	}
	return used
}

// Waits is how many turns and writes wait.
func (d *Disk) Waits() (turns, writes int) {
	if d.down {
		return 0, 0
	}
	for _, f := range d.known {
		writes += len(f.writes)
	}
	return len(d.turns), writes
}
