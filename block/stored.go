package block

import "concertina/bits"

// stored are the contents of a stored block: bytes as they are.
type stored []byte

// size counts the bits up to the byte boundary behind the header, the length
// twice, and the bytes.
func (s stored) size() int {
	return 8 - headerBits + 2*16 + 8*len(s)
}

func (s stored) write(w *bits.Writer) {
	n := uint32(len(s))
	w.Align()
	w.Put(n, 16)
	w.Put(^n, 16)
	w.Write(s)
}
