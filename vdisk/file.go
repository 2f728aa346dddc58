package vdisk

import (
	"slices"
)

// file is bytes as they are seen, those that are sure, and the writes between them, in their order.
type file struct {
	// made is how many files were made ahead of it.
	made       int
	seen, sure []byte
	writes     []write
}

// write is bytes, and the place where they were put.
type write struct {
	at int
	b  []byte
}

// turn takes a name away and gives one to a file; either may lack.
type turn struct {
	from, to string
	f        *file
}

// fileOf is a file whose bytes are sure.
func fileOf(made int, b []byte) *file {
	return &file{made: made, seen: slices.Clone(b), sure: slices.Clone(b)}
}

// write puts bytes over those that are seen.
func (f *file) write(at int, b []byte) {
	w := write{at: at, b: slices.Clone(b)}
	f.seen = w.over(f.seen, len(b))
	f.writes = append(f.writes, w)
}

// sync makes what is seen sure.
func (f *file) sync() {
	// The writes are done again, so that a sync costs no more than what was written.
	for _, w := range f.writes {
		f.sure = w.over(f.sure, len(w.b))
	}
	f.writes = nil
}

// restore makes what is sure, with so many first bytes of each write as keep tells, all that there is.
func (f *file) restore(keep []int) {
	for i, n := range keep {
		w := f.writes[i]
		f.sure = w.over(f.sure, within(n, len(w.b)))
	}
	f.seen, f.writes = slices.Clone(f.sure), nil
}

// within is n, or the nearest number to it from 0 to most.
func within(n, most int) int {
	return min(max(n, 0), most)
}

// over is bytes with the write's first n put over them.
func (w write) over(b []byte, n int) []byte {
	// A write without bytes leaves nothing ahead of it either.
	if n == 0 {
		return b
	}
	if lack := w.at + n - len(b); lack > 0 {
		b = append(b, make([]byte, lack)...)
	}
	copy(b[w.at:], w.b[:n])
	return b
}

// do turns names.
func (t turn) do(names map[string]*file) {
	delete(names, t.from)
	if t.to != "" {
		names[t.to] = t.f
	}
}
