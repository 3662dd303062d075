package sums

// matrix is a linear map of 32 bits, to which XOR is the addition: an element
// is what the number with that bit alone is mapped to.
type matrix [32]uint32

// byteMatrix returns the map that does the eight steps of a byte.
func byteMatrix() matrix {
	var m matrix
	for i := range len(m) {
		m[i] = byteSteps(1 << i)
	}
	return m
}

// times returns what v is mapped to.
func (m matrix) times(v uint32) uint32 {
	out := uint32(0)
	for i, x := range m {
		if v>>i&1 == 1 {
			out ^= x
		}
	}
	return out
}

// squared returns the map that applies m twice.
func (m matrix) squared() matrix {
	var out matrix
	for i, x := range m {
		out[i] = m.times(x)
	}
	return out
}
