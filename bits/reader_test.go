package bits_test

import (
	"math"
	"testing"

	"concertina/bits"
)

// readerOf returns a reader of the bytes.
func readerOf(b ...byte) *bits.Reader {
	r := bits.NewReader()
	r.Feed(b)
	return r
}

// wantBits compares what Peek or Get returned.
func wantBits(t *testing.T, what string, call func(int) (uint32, bool), n int, want uint32, wantOK bool) {
	t.Helper()
	v, ok := call(n)
	if v != want || ok != wantOK {
		t.Errorf("%s(%d): %#x %v instead of %#x %v", what, n, v, ok, want, wantOK)
	}
}

// P1.2: a new reader has no bits.
func TestNewReaderIsEmpty(t *testing.T) {
	r := bits.NewReader()
	if r == nil {
		t.Fatal("no reader")
	}
	wantNumber(t, "Left", r.Left(), 0)
	wantBits(t, "Peek", r.Peek, 0, 0, true)
	wantBits(t, "Get", r.Get, 0, 0, true)
	wantBits(t, "Peek", r.Peek, 1, 0, false)
	wantBits(t, "Get", r.Get, 1, 0, false)
	wantBytes(t, "Read", r.Read(1))
	r.Align()
	wantNumber(t, "Left", r.Left(), 0)
}

// P1.2: bits come lowest first, and a number's first bit is its lowest.
func TestGetLowestBitFirst(t *testing.T) {
	r := readerOf(0x41, 0x83)
	for i := range 16 {
		wantBits(t, "Get", r.Get, 1, uint32(0x8341>>i&1), true)
		wantNumber(t, "Left", r.Left(), 15-i)
	}
	r = readerOf(0x41, 0x83)
	wantBits(t, "Get", r.Get, 5, 1, true)
	wantBits(t, "Get", r.Get, 11, 0x41a, true)
	wantBits(t, "Get", r.Get, 1, 0, false)
}

// P1.2: 32 bits are got whole, at every place in a byte.
func TestGetThirtyTwoBits(t *testing.T) {
	for before := range 8 {
		w := bits.NewWriter()
		w.Put(math.MaxUint32, before)
		w.Put(0x80c0a0f1, 32)
		w.Put(math.MaxUint32, 8-before)
		r := readerOf(w.Take()...)
		wantBits(t, "Get", r.Get, before, 1<<before-1, true)
		wantBits(t, "Peek", r.Peek, 32, 0x80c0a0f1, true)
		wantBits(t, "Get", r.Get, 32, 0x80c0a0f1, true)
		wantNumber(t, "Left", r.Left(), 8-before)
	}
}

// P1.2: Peek removes nothing, whatever was peeked before it.
func TestPeekRemovesNothing(t *testing.T) {
	r := readerOf(0x12, 0x34, 0x56, 0x78, 0x9a)
	for _, n := range []int{32, 1, 0, 12, 8, 32, 31} {
		want := uint32(uint64(0x9a78563412) & (1<<n - 1))
		wantBits(t, "Peek", r.Peek, n, want, true)
		wantNumber(t, "Left", r.Left(), 40)
	}
	wantBits(t, "Get", r.Get, 12, 0x412, true)
	wantBits(t, "Peek", r.Peek, 4, 3, true)
	wantBits(t, "Peek", r.Peek, 28, 0x9a78563, true)
	wantBits(t, "Peek", r.Peek, 29, 0, false)
	wantNumber(t, "Left", r.Left(), 28)
}

// P1.2: other n have no bits, and remove none.
func TestReaderOtherCounts(t *testing.T) {
	for _, n := range otherCounts {
		r := readerOf(1, 2, 3, 4, 5, 6, 7, 8, 9, 10)
		wantBits(t, "Peek", r.Peek, n, 0, false)
		wantBits(t, "Get", r.Get, n, 0, false)
		wantNumber(t, "Left", r.Left(), 80)
		wantBits(t, "Get", r.Get, 9, 1, true)
		wantBits(t, "Peek", r.Peek, n, 0, false)
		wantBits(t, "Get", r.Get, n, 0, false)
		wantNumber(t, "Left", r.Left(), 71)
	}
}

// P1.2: what fails removes nothing; the bits are there when more was fed.
func TestGetOfTooFew(t *testing.T) {
	r := readerOf(0xff)
	wantBits(t, "Get", r.Get, 9, 0, false)
	wantBits(t, "Peek", r.Peek, 9, 0, false)
	wantNumber(t, "Left", r.Left(), 8)
	wantBits(t, "Get", r.Get, 7, 0x7f, true)
	wantBits(t, "Get", r.Get, 2, 0, false)
	wantBits(t, "Get", r.Get, 0, 0, true)
	r.Feed([]byte{0})
	wantBits(t, "Get", r.Get, 2, 1, true)
	wantNumber(t, "Left", r.Left(), 7)
}

// P1.2: bytes may be fed in parts, empty ones among them, in the middle of
// what is got.
func TestFeedInParts(t *testing.T) {
	r := bits.NewReader()
	r.Feed(nil)
	r.Feed([]byte{0xcd})
	wantBits(t, "Get", r.Get, 4, 0xd, true)
	r.Feed([]byte{0xab, 0x12})
	r.Feed([]byte{})
	wantBits(t, "Peek", r.Peek, 12, 0xabc, true)
	r.Feed([]byte{0x34})
	wantNumber(t, "Left", r.Left(), 28)
	wantBits(t, "Get", r.Get, 28, 0x3412abc, true)
	r.Feed([]byte{0x56})
	wantBits(t, "Get", r.Get, 8, 0x56, true)
	wantNumber(t, "Left", r.Left(), 0)
}

// P1.2: Align removes the bits of a begun byte, and no others, also if bits
// behind them were peeked.
func TestReaderAlign(t *testing.T) {
	for n := range 9 {
		r := readerOf(0xff, 0x5a, 0xc3, 0x99, 0x01)
		wantBits(t, "Peek", r.Peek, 32, 0x99c35aff, true)
		wantBits(t, "Get", r.Get, n, 1<<n-1, true)
		r.Align()
		want, left := uint32(0x5a), 32
		if n == 0 {
			want, left = 0xff, 40
		}
		wantNumber(t, "Left", r.Left(), left)
		r.Align()
		wantNumber(t, "Left after a second Align", r.Left(), left)
		wantBits(t, "Get", r.Get, 8, want, true)
	}
}

// P1.2: the boundary is one of the fed bytes, also if more was fed within a
// byte.
func TestReaderAlignBetweenFeeds(t *testing.T) {
	r := readerOf(0xff)
	wantBits(t, "Get", r.Get, 3, 7, true)
	r.Feed([]byte{0x5a})
	wantNumber(t, "Left", r.Left(), 13)
	r.Align()
	wantNumber(t, "Left", r.Left(), 8)
	wantBits(t, "Get", r.Get, 8, 0x5a, true)
}

// P1.2: Read returns at most n bytes from the next boundary on.
func TestRead(t *testing.T) {
	r := readerOf(1, 2, 3, 4, 5, 6, 7, 8)
	wantBytes(t, "at a boundary", r.Read(2), 1, 2)
	wantBits(t, "Get", r.Get, 1, 1, true)
	wantBytes(t, "within a byte", r.Read(1), 4)
	wantBits(t, "Peek", r.Peek, 32, 0x08070605, true)
	wantBytes(t, "some that were peeked", r.Read(2), 5, 6)
	wantNumber(t, "Left", r.Left(), 16)
	wantBytes(t, "more than there are", r.Read(100), 7, 8)
	wantBytes(t, "at the end", r.Read(1))
	r.Feed([]byte{9, 10})
	wantBytes(t, "as many as may be", r.Read(math.MaxInt), 9, 10)
}

// P1.2: Read returns bytes that were peeked and bytes that were not together.
func TestReadOverPeekedBytes(t *testing.T) {
	for begun := range 8 {
		r := readerOf(0, 1, 2, 3, 4, 5, 6, 7)
		wantBits(t, "Get", r.Get, 8+begun, 1<<8&(1<<(8+begun)-1), true)
		if _, ok := r.Peek(32); !ok {
			t.Error("Peek: too few")
		}
		first := byte(2)
		if begun == 0 {
			first = 1
		}
		wantBytes(t, "Read", r.Read(5), first, first+1, first+2, first+3, first+4)
		wantNumber(t, "Left", r.Left(), 8*int(3-first))
	}
}

// P1.2: Read aligns whatever n is, and returns no bytes for n below 1.
func TestReadOfNoBytes(t *testing.T) {
	for _, n := range []int{0, -1, math.MinInt} {
		r := readerOf(0xff, 2)
		wantBytes(t, "at a boundary", r.Read(n))
		wantNumber(t, "Left", r.Left(), 16)
		wantBits(t, "Get", r.Get, 3, 7, true)
		wantBytes(t, "within a byte", r.Read(n))
		wantNumber(t, "Left", r.Left(), 8)
		wantBits(t, "Get", r.Get, 8, 2, true)
	}
	r := readerOf(0xff)
	wantBits(t, "Get", r.Get, 3, 7, true)
	wantBytes(t, "within the last byte", r.Read(1))
	wantNumber(t, "Left", r.Left(), 0)
}

// P1.2 and R4: b isn't changed, with its spare capacity, and isn't kept.
func TestFeedKeepsNoArgument(t *testing.T) {
	array := []byte{1, 2, 3, 4}
	r := bits.NewReader()
	r.Feed(array[:2])
	r.Feed([]byte{9})
	wantBytes(t, "argument", array, 1, 2, 3, 4)
	array[0] = 7
	wantBytes(t, "Read", r.Read(3), 1, 2, 9)
}

// P1.2 and R4: what was read is new memory.
func TestReadBytesAreNewMemory(t *testing.T) {
	r := readerOf(1, 2, 3, 4, 5)
	mark := *r
	first := r.Read(2)
	for i := range first {
		first[i] = 0xee
	}
	first = append(first, 0xee, 0xee)
	wantBytes(t, "what is left", r.Read(3), 3, 4, 5)
	wantBytes(t, "what was appended to", first, 0xee, 0xee, 0xee, 0xee)
	*r = mark
	wantBytes(t, "all again", r.Read(5), 1, 2, 3, 4, 5)
}

// DOC.md, Ways: a reader is a value that can be restored.
func TestReaderIsRestored(t *testing.T) {
	r := readerOf(0x12, 0x34, 0x56, 0x78, 0x9a, 0xbc)
	wantBits(t, "Get", r.Get, 3, 2, true)
	mark := *r
	want := r.Left()
	for _, n := range []int{1, 12, 32} {
		r.Get(n)
		r.Read(1)
		r.Align()
		*r = mark
		wantNumber(t, "Left", r.Left(), want)
		wantBits(t, "Peek", r.Peek, 32, 0x4f0ac682, true)
	}
}

// P1.3: a nil reader returns nil, 0 or false, and its other methods do
// nothing.
func TestNilReader(t *testing.T) {
	var r *bits.Reader
	r.Feed([]byte{1})
	r.Feed(nil)
	r.Align()
	wantNumber(t, "Left", r.Left(), 0)
	for _, n := range append([]int{0, 1, 32}, otherCounts...) {
		wantBits(t, "Peek", r.Peek, n, 0, false)
		wantBits(t, "Get", r.Get, n, 0, false)
		if b := r.Read(n); b != nil {
			t.Errorf("Read(%d): %x", n, b)
		}
	}
}

// P1.3: the n lowest bits are reversed, and no others come in.
func TestReverse(t *testing.T) {
	tests := []struct {
		v    uint32
		n    int
		want uint32
	}{
		{0, 0, 0}, {math.MaxUint32, 0, 0}, {1, 1, 1}, {2, 1, 0}, {6, 3, 3},
		{0b1011, 4, 0b1101}, {0xffff0001, 16, 0x8000}, {1, 31, 1 << 30},
		{1 << 31, 31, 0}, {1, 32, 1 << 31}, {1 << 31, 32, 1},
		{math.MaxUint32, 32, math.MaxUint32}, {0x12345678, 32, 0x1e6a2c48},
	}
	for _, x := range tests {
		if got := bits.Reverse(x.v, x.n); got != x.want {
			t.Errorf("Reverse(%#x, %d): %#x instead of %#x", x.v, x.n, got, x.want)
		}
	}
}

// P1.3: Reverse has bit i where bit n - 1 - i was, for every n.
func TestReverseOfEachBit(t *testing.T) {
	for n := range 33 {
		for i := range 32 {
			want := uint32(0)
			if i < n {
				want = 1 << (n - 1 - i)
			}
			if got := bits.Reverse(1<<i, n); got != want {
				t.Errorf("Reverse(1<<%d, %d): %#x instead of %#x", i, n, got, want)
			}
		}
	}
}

// P1.3: other n have 0.
func TestReverseOtherCounts(t *testing.T) {
	for _, n := range otherCounts {
		if got := bits.Reverse(math.MaxUint32, n); got != 0 {
			t.Errorf("Reverse(.., %d): %#x", n, got)
		}
	}
}
