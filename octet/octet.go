// Package octet is layer 1: numbers and texts in bytes, the highest byte first. See shared/doc/01-octet.md.
package octet

// lengthSize is how many bytes tell the length of a text.
const lengthSize = 4

// sized tells whether there are numbers of k bytes.
func sized(k int) bool {
	return k >= 1 && k <= 8
}

// holds tells whether v is a number of k bytes.
func holds(v uint64, k int) bool {
	// For k 8 the shift is by 64 bits, which leaves 0: eight bytes hold all.
	return sized(k) && v>>(8*k) == 0
}

// Put is a number's bytes.
func Put(v uint64, k int) ([]byte, bool) {
	if !holds(v, k) {
		return nil, false
	}
	b := make([]byte, k)
	for i := range k {
		b[k-1-i] = byte(v >> (8 * i))
	}
	return b, true
}

// Get is the number at a place.
func Get(b []byte, at, k int) (uint64, bool) {
	// k is taken from the length, since at and k together may run over.
	if !sized(k) || at < 0 || at > len(b)-k {
		return 0, false
	}
	v := uint64(0)
	for i := range k {
		v = v<<8 | uint64(b[at+i])
	}
	return v, true
}

// Signed is the signed number that so many bytes tell.
func Signed(v uint64, k int) (int, bool) {
	if !holds(v, k) {
		return 0, false
	}
	// Shifted up and down again as a signed one, the sign fills what is ahead.
	ahead := 64 - 8*k
	return int(v<<ahead) >> ahead, true
}

// Fits tells whether that is a signed number of so many bytes.
func Fits(v, k int) bool {
	if !sized(k) {
		return false
	}
	// From the sign's bit on upwards all bits are alike.
	sign := v >> (8*k - 1)
	return sign == 0 || sign == -1
}

// Turn is a number whose bytes are turned about.
func Turn(v uint64, k int) (uint64, bool) {
	if !holds(v, k) {
		return 0, false
	}
	t := uint64(0)
	for i := range k {
		t = t<<8 | v>>(8*i)&0xff
	}
	return t, true
}
