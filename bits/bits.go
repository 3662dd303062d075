// Package bits writes and reads bit streams, least significant bit first.
package bits

import "math/bits"

// mostBits is the size of the largest number that is put or got at once.
const mostBits = 32

// Writer packs bits into bytes. Its zero value is an empty writer.
type Writer struct {
	done  []byte // the complete bytes
	spare uint64 // the bits of the incomplete byte, with zeros above them
	count int    // the number of bits in spare, below 8 between calls
}

// NewWriter returns a writer without bits.
func NewWriter() *Writer {
	return &Writer{}
}

// Put appends the n lowest bits of v, for n from 0 to 32.
func (w *Writer) Put(v uint32, n int) {
	if w == nil || !fits(n) {
		return
	}
	w.spare |= lowest(uint64(v), n) << w.count
	w.count += n
	w.flush()
}

// flush moves complete bytes out of spare, so that the next number fits in.
func (w *Writer) flush() {
	for w.count >= 8 {
		w.done = append(w.done, byte(w.spare))
		w.spare >>= 8
		w.count -= 8
	}
}

// Align appends zero bits up to a byte boundary.
func (w *Writer) Align() {
	if w == nil || w.count == 0 {
		return
	}
	// The bits above the count are zeros already: counting them appends them.
	w.count = 8
	w.flush()
}

// Write appends the bytes of b at the next byte boundary.
func (w *Writer) Write(b []byte) {
	if w == nil {
		return
	}
	w.Align()
	w.done = append(w.done, b...)
}

// Bits returns the number of bits that were appended and not taken.
func (w *Writer) Bits() int {
	if w == nil {
		return 0
	}
	return 8*len(w.done) + w.count
}

// Take removes and returns the complete bytes.
func (w *Writer) Take() []byte {
	if w == nil {
		return nil
	}
	out := w.done
	// The caller owns the array from here on, with its spare capacity.
	w.done = nil
	return out
}

// Reader unpacks bits from bytes. Its zero value is an empty reader.
//
// It never changes bytes that it holds, so that a copy of its value is a mark
// to which it can be restored, as long as nothing was fed in between.
type Reader struct {
	rest  []byte // the bytes of which no bit was moved to spare
	spare uint64 // the bits before rest, with zeros above them
	count int    // the number of bits in spare
}

// NewReader returns a reader without bits.
func NewReader() *Reader {
	return &Reader{}
}

// Feed appends the bits of b.
func (r *Reader) Feed(b []byte) {
	if r == nil {
		return
	}
	r.rest = append(r.rest, b...)
}

// Left returns the number of remaining bits.
func (r *Reader) Left() int {
	if r == nil {
		return 0
	}
	return r.count + 8*len(r.rest)
}

// Peek returns the next n bits and true, for n from 0 to 32, if there are as
// many.
func (r *Reader) Peek(n int) (uint32, bool) {
	if r == nil || !fits(n) || n > r.Left() {
		return 0, false
	}
	r.fill(n)
	return uint32(lowest(r.spare, n)), true
}

// fill moves bytes to spare until it has n bits, of those that remain.
func (r *Reader) fill(n int) {
	for r.count < n {
		r.spare |= uint64(r.rest[0]) << r.count
		r.count += 8
		r.skip(1)
	}
}

// skip removes n bytes of the rest.
func (r *Reader) skip(n int) {
	r.rest = r.rest[n:]
	if len(r.rest) == 0 {
		// An empty slice would keep its whole array in memory.
		r.rest = nil
	}
}

// drop removes n bits of spare.
func (r *Reader) drop(n int) {
	r.spare >>= n
	r.count -= n
}

// Get does the same as Peek and removes the bits.
func (r *Reader) Get(n int) (uint32, bool) {
	v, ok := r.Peek(n)
	if ok {
		r.drop(n)
	}
	return v, ok
}

// Align removes the bits up to the next byte boundary of the fed bytes.
func (r *Reader) Align() {
	if r == nil {
		return
	}
	// Only whole bytes are fed: what is above a multiple of 8 is the rest of
	// the byte that was begun.
	r.drop(r.count % 8)
}

// Read removes and returns at most n bytes from the next byte boundary on.
func (r *Reader) Read(n int) []byte {
	if r == nil {
		return nil
	}
	r.Align()
	n = min(n, r.Left()/8)
	if n < 1 {
		return nil
	}
	out := make([]byte, 0, n)
	for r.count > 0 && len(out) < n {
		out = append(out, byte(r.spare))
		r.drop(8)
	}
	more := n - len(out)
	out = append(out, r.rest[:more]...)
	r.skip(more)
	return out
}

// Reverse returns the n lowest bits of v in reverse order, for n from 0 to 32,
// and 0 for other n.
func Reverse(v uint32, n int) uint32 {
	if !fits(n) {
		return 0
	}
	// All 32 bits are reversed, so the n lowest ones are the highest now.
	return bits.Reverse32(v) >> (mostBits - n)
}

// fits reports whether n bits are a number.
func fits(n int) bool {
	return n >= 0 && n <= mostBits
}

// lowest returns the n lowest bits of v.
func lowest(v uint64, n int) uint64 {
	return v & (1<<n - 1)
}
