package block_test

import (
	"bytes"
	"testing"

	"concertina/api"
	"concertina/block"
	"concertina/internal/sample"
)

// wantBytes compares the bytes of a block that begins at a byte boundary.
func wantBytes(t *testing.T, kind int, list []api.Token, raw []byte, last bool, bits int, want ...byte) {
	t.Helper()
	if got, n := written(t, 0, kind, list, raw, last); !bytes.Equal(got, want) || n != bits {
		t.Errorf("kind %d, %d tokens %v, %d bytes: %x, %d bits instead of %x, %d bits", kind, len(list), short(list), len(raw), got, n, want, bits)
	}
	if got := block.Cost(kind, list, raw); got != bits {
		t.Errorf("kind %d, %d tokens %v, %d bytes: cost %d instead of %d", kind, len(list), short(list), len(raw), got, bits)
	}
}

// P10.1: the example of the chapter: 1, 1 0, 0000000.
func TestFixedExample(t *testing.T) {
	wantBytes(t, api.Fixed, nil, nil, true, 10, 0x03, 0x00)
	wantBytes(t, api.Fixed, []api.Token{}, nil, true, 10, 0x03, 0x00)
	wantBytes(t, api.Fixed, nil, []byte("abc"), true, 10, 0x03, 0x00)
	wantBytes(t, api.Fixed, nil, nil, false, 10, 0x02, 0x00)
}

// P10.1: the lengths of the fixed codes.
func TestFixedLengths(t *testing.T) {
	first, second := block.FixedLengths()
	if len(first) != 288 || len(second) != 32 {
		t.Fatalf("%d and %d lengths", len(first), len(second))
	}
	for symbol, n := range first {
		want := 8
		switch {
		case symbol >= 144 && symbol <= 255:
			want = 9
		case symbol >= 256 && symbol <= 279:
			want = 7
		}
		if n != want {
			t.Errorf("the length of %d: %d instead of %d", symbol, n, want)
		}
	}
	for symbol, n := range second {
		if n != 5 {
			t.Errorf("the length of distance code %d: %d", symbol, n)
		}
	}
}

// P10.1: blocks whose bits are known.
func TestFixedBits(t *testing.T) {
	wantBytes(t, api.Fixed, lits("a"), nil, true, 18, 0x4b, 0x04, 0x00)
	wantBytes(t, api.Fixed, lits("a"), nil, false, 18, 0x4a, 0x04, 0x00)
	// 00110000 and 10111111 are the first and the last code of 8 bits, 110010000
	// and 111111111 those of 9.
	wantBytes(t, api.Fixed, lits("\x00\x8f"), nil, true, 26, 0x63, 0xe8, 0x07, 0x00)
	wantBytes(t, api.Fixed, lits("\x90\xff"), nil, true, 28, 0x9b, 0xf0, 0x1f, 0x00)
	// a, and then 0000001 for the length 3, 00000 for the distance 1.
	wantBytes(t, api.Fixed, []api.Token{lit('a'), match(3, 1)}, nil, true, 30, 0x4b, 0x04, 0x02, 0x00)
	// 11000101 for the length 258, 11101 and thirteen ones for the distance 32768.
	wantBytes(t, api.Fixed, []api.Token{match(258, 32768)}, nil, true, 36, 0x1b, 0xbd, 0xff, 0x1f, 0x00)
}

// P10.1: each byte as a literal, by its code.
func TestFixedLiterals(t *testing.T) {
	for b := range 256 {
		n := 18
		if b >= 144 {
			n = 19
		}
		if got := wantBlock(t, 0, api.Fixed, []api.Token{lit(byte(b))}, nil, true); got.end != n {
			t.Errorf("literal %d: %d bits", b, got.end)
		}
	}
	wantBlocks(t, api.Fixed, lits(sample.Noise(3000)), nil)
}

// P10.1: every length and every distance.
func TestFixedMatches(t *testing.T) {
	var lengths, dists []api.Token
	for n := 3; n <= 258; n++ {
		lengths = append(lengths, match(n, 1), match(n, n))
		wantBlock(t, 0, api.Fixed, []api.Token{match(n, 100*n)}, nil, true)
	}
	for dist := 1; dist <= 32768; dist++ {
		dists = append(dists, match(3, dist))
	}
	wantBlocks(t, api.Fixed, lengths, nil)
	wantBlock(t, 0, api.Fixed, dists, nil, true)
}
