package bits_test

import (
	"bytes"
	"math"
	"testing"

	"concertina/bits"
)

// otherCounts are numbers of bits that no number has.
var otherCounts = []int{-1, -8, -32, 33, 40, 64, 65, math.MinInt, math.MaxInt, math.MinInt32, math.MaxInt32}

// wantBytes compares bytes; nil and empty are the same.
func wantBytes(t *testing.T, what string, got []byte, want ...byte) {
	t.Helper()
	if !bytes.Equal(got, want) {
		t.Errorf("%s: %x instead of %x", what, got, want)
	}
}

func wantNumber(t *testing.T, what string, got, want int) {
	t.Helper()
	if got != want {
		t.Errorf("%s: %d instead of %d", what, got, want)
	}
}

// P1.1: the example of the chapter.
func TestWriterExample(t *testing.T) {
	w := bits.NewWriter()
	w.Put(1, 1)
	w.Put(2, 2)
	wantBytes(t, "before Align", w.Take())
	w.Align()
	wantBytes(t, "after Align", w.Take(), 5)
}

// P1.1: a new writer has no bits.
func TestNewWriterIsEmpty(t *testing.T) {
	w := bits.NewWriter()
	if w == nil {
		t.Fatal("no writer")
	}
	wantNumber(t, "Bits", w.Bits(), 0)
	wantBytes(t, "Take", w.Take())
}

// P1.1: the first bit is the lowest bit of the first byte, and a number's
// lowest bit is its first.
func TestPutLowestBitFirst(t *testing.T) {
	w := bits.NewWriter()
	for i := range 16 {
		w.Put(uint32(0x8341>>i), 1)
	}
	wantBytes(t, "bit by bit", w.Take(), 0x41, 0x83)
	w.Put(0x8341, 16)
	wantBytes(t, "at once", w.Take(), 0x41, 0x83)
	w.Put(0x1, 5)
	w.Put(0x41a, 11)
	wantBytes(t, "over a byte boundary", w.Take(), 0x41, 0x83)
}

// P1.1: 32 bits are put whole, at every place in a byte.
func TestPutThirtyTwoBits(t *testing.T) {
	for before := range 8 {
		w := bits.NewWriter()
		w.Put(0, before)
		w.Put(0x80c0a0f1, 32)
		wantNumber(t, "Bits", w.Bits(), before+32)
		w.Align()
		v := uint64(0x80c0a0f1) << before
		var want []byte
		for range (before + 32 + 7) / 8 {
			want = append(want, byte(v))
			v >>= 8
		}
		wantBytes(t, "32 bits", w.Take(), want...)
	}
}

// P1.1: only the n lowest bits of v are appended; the others touch nothing.
func TestPutIgnoresHighBits(t *testing.T) {
	w := bits.NewWriter()
	w.Put(math.MaxUint32, 3)
	w.Put(0, 5)
	w.Put(math.MaxUint32, 0)
	w.Put(math.MaxUint32-1, 1)
	w.Put(0, 7)
	wantBytes(t, "masked", w.Take(), 7, 0)
}

// P1.1: 0 bits are no bits.
func TestPutZeroBits(t *testing.T) {
	w := bits.NewWriter()
	w.Put(math.MaxUint32, 0)
	wantNumber(t, "Bits", w.Bits(), 0)
	w.Align()
	wantBytes(t, "Take", w.Take())
}

// P1.1: for other n Put does nothing, also in the middle of a byte.
func TestPutOtherCounts(t *testing.T) {
	for _, n := range otherCounts {
		w := bits.NewWriter()
		w.Put(math.MaxUint32, n)
		wantNumber(t, "Bits of none", w.Bits(), 0)
		w.Put(5, 3)
		w.Put(math.MaxUint32, n)
		wantNumber(t, "Bits", w.Bits(), 3)
		w.Put(0, 5)
		w.Put(math.MaxUint32, n)
		wantBytes(t, "Take", w.Take(), 5)
	}
}

// P1.1: Align appends zeros up to a boundary, and none at one.
func TestWriterAlign(t *testing.T) {
	for n := 1; n <= 8; n++ {
		w := bits.NewWriter()
		w.Put(math.MaxUint32, n)
		w.Align()
		wantNumber(t, "Bits", w.Bits(), 8)
		w.Align()
		wantNumber(t, "Bits after a second Align", w.Bits(), 8)
		wantBytes(t, "Take", w.Take(), byte(1<<n-1))
	}
	w := bits.NewWriter()
	w.Align()
	wantNumber(t, "Bits of an empty writer", w.Bits(), 0)
}

// P1.1: the boundary is one of the stream, not of what was not taken.
func TestWriterAlignAfterTake(t *testing.T) {
	w := bits.NewWriter()
	w.Put(0x7ff, 11)
	wantBytes(t, "first byte", w.Take(), 0xff)
	wantNumber(t, "Bits", w.Bits(), 3)
	w.Align()
	wantNumber(t, "Bits after Align", w.Bits(), 8)
	wantBytes(t, "second byte", w.Take(), 7)
}

// P1.1: Write aligns, also without bytes, and appends all bytes.
func TestWriterWrite(t *testing.T) {
	w := bits.NewWriter()
	w.Write([]byte{1, 2})
	w.Put(1, 1)
	w.Write([]byte{3, 0xff, 0})
	wantNumber(t, "Bits", w.Bits(), 48)
	w.Put(1, 2)
	w.Write(nil)
	wantNumber(t, "Bits after no bytes", w.Bits(), 56)
	w.Write([]byte{})
	w.Put(3, 2)
	wantBytes(t, "Take", w.Take(), 1, 2, 1, 3, 0xff, 0, 1)
	wantNumber(t, "Bits that remain", w.Bits(), 2)
}

// P1.1: Take removes complete bytes; the bits of an incomplete one remain and
// are continued.
func TestTakeKeepsIncompleteByte(t *testing.T) {
	w := bits.NewWriter()
	w.Put(0x1ab, 9)
	wantNumber(t, "Bits", w.Bits(), 9)
	wantBytes(t, "first", w.Take(), 0xab)
	wantNumber(t, "Bits", w.Bits(), 1)
	wantBytes(t, "nothing complete", w.Take())
	wantNumber(t, "Bits", w.Bits(), 1)
	w.Put(0x2a, 7)
	wantBytes(t, "second", w.Take(), 0x55)
	wantNumber(t, "Bits", w.Bits(), 0)
	wantBytes(t, "over", w.Take())
}

// P1.1 and R4: b isn't changed, with its spare capacity, and isn't kept.
func TestWriteKeepsNoArgument(t *testing.T) {
	array := []byte{1, 2, 3, 4}
	w := bits.NewWriter()
	w.Write(array[:2])
	w.Put(0xff, 8)
	wantBytes(t, "argument", array, 1, 2, 3, 4)
	array[0] = 9
	wantBytes(t, "Take", w.Take(), 1, 2, 0xff)
}

// P1.1 and R4: what was taken is new memory.
func TestTakenBytesAreNewMemory(t *testing.T) {
	w := bits.NewWriter()
	w.Write([]byte{1, 2, 3})
	w.Put(5, 3)
	first := w.Take()
	w.Put(0, 5)
	w.Write([]byte{7, 8, 9})
	wantBytes(t, "first", first, 1, 2, 3)
	first = append(first, 10, 11, 12)
	for i := range first {
		first[i] = 0xee
	}
	wantBytes(t, "second", w.Take(), 5, 7, 8, 9)
}

// P1.3: a nil writer returns nil or 0, and its other methods do nothing.
func TestNilWriter(t *testing.T) {
	var w *bits.Writer
	w.Put(1, 1)
	w.Put(1, -1)
	w.Align()
	w.Write([]byte{1})
	w.Write(nil)
	wantNumber(t, "Bits", w.Bits(), 0)
	if b := w.Take(); b != nil {
		t.Errorf("Take: %x", b)
	}
}

// R5: writers know nothing of each other.
func TestWritersAreApart(t *testing.T) {
	a, b := bits.NewWriter(), bits.NewWriter()
	a.Put(5, 3)
	b.Put(1, 1)
	a.Put(0x1f, 5)
	b.Align()
	wantBytes(t, "a", a.Take(), 0xfd)
	wantBytes(t, "b", b.Take(), 1)
}
