package crc

// stateBits is how many bits a state has.
const stateBits = 32

// topBit is the bit of a state that goes out last.
const topBit = stateBits - 1

// images are what some steps make of each bit of a state. A state is its bits turned together, and so is what steps make of it.
type images [stateBits]uint32

// step is a state behind one step.
func step(state uint32) uint32 {
	if state&1 == 1 {
		return state>>1 ^ polynomial
	}
	return state >> 1
}

// imagesFrom are the images of the steps that make top of the top bit.
func imagesFrom(top uint32) images {
	m := images{}
	// One step makes of a bit the one below it, and steps may change places with steps: the image of the bit below is one step further.
	for i := range stateBits {
		m[topBit-i] = top
		top = step(top)
	}
	return m
}

// byteSteps are the eight steps of a byte 00.
func byteSteps() images {
	return imagesFrom(1 << (topBit - 8))
}

// of is what the steps make of a state.
func (m images) of(state uint32) uint32 {
	made := uint32(0)
	for i := range stateBits {
		if state>>i&1 == 1 {
			made ^= m[i]
		}
	}
	return made
}

// twice are the images of the steps, done twice.
func (m images) twice() images {
	return imagesFrom(m.of(m[topBit]))
}
