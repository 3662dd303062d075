package block_test

import (
	"bytes"
	"math"
	"math/rand"
	"slices"
	"testing"

	"concertina/api"
	"concertina/bits"
	"concertina/block"
)

// codedKinds are the kinds of blocks that have tokens.
var codedKinds = []int{api.Fixed, api.Dynamic}

// noKinds are numbers that are no kind of a block.
var noKinds = []int{-1, 3, 4, 5, 7, 8, 256, -256, math.MaxInt32, math.MinInt32, 1 << 32, 1<<32 + 1, math.MaxInt, math.MinInt}

// lit returns a literal.
func lit(b byte) api.Token {
	return api.Token{Lit: b}
}

// match returns a match.
func match(n, dist int) api.Token {
	return api.Token{Len: n, Dist: dist}
}

// lits returns a literal for each byte.
func lits[T string | []byte](text T) []api.Token {
	var list []api.Token
	for _, b := range []byte(text) {
		list = append(list, lit(b))
	}
	return list
}

// someTokens returns sound tokens of many different codes.
func someTokens(random *rand.Rand, n int) []api.Token {
	var list []api.Token
	symbols := 1 + random.Intn(256)
	most := 1 << random.Intn(16)
	for range n {
		if random.Intn(3) > 0 {
			list = append(list, lit(byte(random.Intn(symbols))))
		} else {
			list = append(list, match(3+random.Intn(256)*random.Intn(symbols)/255, 1+random.Intn(most)))
		}
	}
	return list
}

// short returns the first tokens, for a message.
func short(list []api.Token) []api.Token {
	return list[:min(len(list), 12)]
}

// written writes one block behind that many bits, all of them ones, and returns
// the stream and its number of bits.
func written(t *testing.T, before, kind int, list []api.Token, raw []byte, last bool) ([]byte, int) {
	t.Helper()
	w := bits.NewWriter()
	for range before {
		w.Put(1, 1)
	}
	if !block.WriteKind(w, kind, list, raw, last) {
		t.Fatalf("kind %d: no block of %d tokens %v, %d bytes", kind, len(list), short(list), len(raw))
	}
	n := w.Bits()
	w.Align()
	return w.Take(), n
}

// wantBlock writes a block and reads it back.
func wantBlock(t *testing.T, before, kind int, list []api.Token, raw []byte, last bool) *readBlock {
	t.Helper()
	b, n := written(t, before, kind, list, raw, last)
	got := read(t, b, before)
	if got.end != n || got.last != last || got.kind != kind {
		t.Fatalf("kind %d, last %t: the block is read up to bit %d of %d, as kind %d, last %t", kind, last, got.end, n, got.kind, got.last)
	}
	if kind == api.Stored {
		list = nil
	} else {
		raw = nil
	}
	if !slices.Equal(got.list, list) || !bytes.Equal(got.raw, raw) {
		t.Fatalf("kind %d: %d tokens %v, %d bytes instead of %d tokens %v, %d bytes",
			kind, len(got.list), short(got.list), len(got.raw), len(list), short(list), len(raw))
	}
	if cost := block.Cost(kind, list, raw); cost != n-before && before%8 == 0 {
		t.Errorf("kind %d: cost %d of %d bits", kind, cost, n-before)
	}
	return got
}

// wantBlocks writes a block of that kind at each bit of a byte, as the last one
// and as another one, and reads it back. It returns the last block read.
func wantBlocks(t *testing.T, kind int, list []api.Token, raw []byte) *readBlock {
	t.Helper()
	var got *readBlock
	for before := range 9 {
		wantBlock(t, before, kind, list, raw, false)
		got = wantBlock(t, before, kind, list, raw, true)
	}
	return got
}

// wantNone asks for a block that there is not: nothing is written, in a byte
// that was begun and at a byte boundary.
func wantNone(t *testing.T, kind int, list []api.Token, raw []byte) {
	t.Helper()
	for _, before := range []int{0, 5, 8} {
		for _, last := range []bool{false, true} {
			w := bits.NewWriter()
			w.Put(0x1d, before)
			if block.WriteKind(w, kind, list, raw, last) || w.Bits() != before {
				t.Errorf("kind %d: a block of %d tokens %v, %d bytes: %d bits", kind, len(list), short(list), len(raw), w.Bits()-before)
			}
			w.Align()
			if got, want := w.Take(), []byte{0x1d}[:(before+7)/8]; !bytes.Equal(got, want) {
				t.Errorf("kind %d: %x instead of %x", kind, got, want)
			}
		}
	}
	if cost := block.Cost(kind, list, raw); cost != -1 {
		t.Errorf("kind %d: cost %d of %d tokens %v, %d bytes", kind, cost, len(list), short(list), len(raw))
	}
}

// wantWrite writes a block of the kind that is best: this one.
func wantWrite(t *testing.T, list []api.Token, raw []byte, want int) {
	t.Helper()
	for _, before := range []int{0, 3, 5, 7} {
		for _, last := range []bool{false, true} {
			w := bits.NewWriter()
			w.Put(0x55, before)
			got := block.Write(w, list, raw, last)
			other := bits.NewWriter()
			other.Put(0x55, before)
			block.WriteKind(other, want, list, raw, last)
			n, otherN := w.Bits(), other.Bits()
			w.Align()
			other.Align()
			if got != want || n != otherN || !bytes.Equal(w.Take(), other.Take()) {
				t.Fatalf("%d tokens %v, %d bytes: kind %d, %d bits instead of kind %d, %d bits", len(list), short(list), len(raw), got, n, want, otherN)
			}
		}
	}
}
