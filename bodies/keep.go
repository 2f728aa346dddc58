package bodies

import (
	"slices"

	"pigeonhole/api"
	"pigeonhole/record"
	"pigeonhole/safe"
)

// Keep leaves bodies out whose numbers aren't told.
func (s *Store) Keep(l []int) (int, api.Errno) {
	s.look()
	kept := s.kept(l)
	out := len(s.bodies) - len(kept)
	if out == 0 && s.broken == 0 {
		return 0, api.OK
	}
	b := s.laid(kept)
	if e := safe.Swap(s.disk, name, b); e != api.OK {
		s.cut = s.cut || e == api.ErrDown
		return 0, e
	}
	s.content = contentOf(b)
	return out, api.OK
}

// kept are the numbers of those bodies that stay, rising.
func (s *Store) kept(l []int) []int {
	told := slices.Sorted(slices.Values(l))
	return slices.DeleteFunc(s.Numbers(), func(n int) bool {
		_, isTold := slices.BinarySearch(told, n)
		return !isTold && !s.isMark(n)
	})
}

// isMark tells whether a body does no more than to keep the next number.
func (s *Store) isMark(n int) bool {
	return n == s.next-1 && len(s.bodies[n]) == 0
}

// laid is the records of the bodies with these numbers, which rise, and one that keeps the next number, where they don't.
func (s *Store) laid(numbers []int) []byte {
	var all []byte
	greatest := 0
	lay := func(n int, b []byte) {
		// What was in a record, or may be put, has a frame.
		f, _ := record.Frame(recordOf(n, b))
		all, greatest = append(all, f...), n
	}
	for _, n := range numbers {
		lay(n, s.bodies[n])
	}
	if mark := s.next - 1; greatest < mark {
		lay(mark, nil)
	}
	return all
}
