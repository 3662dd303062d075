package sums_test

import (
	"bytes"
	"hash/adler32"
	"math"
	"math/rand"
	"testing"

	"concertina/sums"
)

// halves are halves of checksums, some of them not below 65521.
var halves = []uint32{0, 1, 2, 0x7fff, 0x8000, 65519, 65520, 65521, 65522, 65535}

// adlers returns the checksums with all halves.
func adlers() []uint32 {
	var list []uint32
	for _, low := range halves {
		for _, high := range halves {
			list = append(list, high<<16|low)
		}
	}
	return list
}

// plainAdler is P2.2, as the chapter tells it.
func plainAdler(sum uint32, b []byte) uint32 {
	low, high := sum&0xffff%65521, sum>>16%65521
	for _, x := range b {
		low = (low + uint32(x)) % 65521
		high = (high + low) % 65521
	}
	return high<<16 | low
}

// plainJoin is P2.3 for an n that is not large, as the chapter tells it.
func plainJoin(a, b uint32, n int64) uint32 {
	x, y := int64(a&0xffff%65521), int64(a>>16%65521)
	p, q := int64(b&0xffff%65521), int64(b>>16%65521)
	return uint32((y+q+n*(x+65520))%65521<<16 | (x+p+65520)%65521)
}

// P2.2: the example of the chapter.
func TestAdlerExample(t *testing.T) {
	wantSum(t, "abc", sums.Adler(1, []byte("abc")), 0x024d0127)
}

// P2.2: known checksums.
func TestAdlerKnown(t *testing.T) {
	tests := []struct {
		text string
		want uint32
	}{
		{"", 1},
		{"a", 0x00620062},
		{"\x00", 0x00010001},
		{"\xff", 0x01000100},
		{"Wikipedia", 0x11e60398},
		{"message digest", 0x29750586},
	}
	for _, x := range tests {
		wantSum(t, x.text, sums.Adler(1, []byte(x.text)), x.want)
	}
}

// P2.2: no bytes change nothing but halves that are not below 65521.
func TestAdlerOfNoBytes(t *testing.T) {
	for _, sum := range adlers() {
		want := sum>>16%65521<<16 | sum&0xffff%65521
		wantSum(t, "nil", sums.Adler(sum, nil), want)
		wantSum(t, "empty", sums.Adler(sum, []byte{}), want)
	}
	wantSum(t, "both halves 65535", sums.Adler(math.MaxUint32, nil), 14<<16|14)
	wantSum(t, "both halves 65521", sums.Adler(0xfff1fff1, nil), 0)
	wantSum(t, "both halves 65520", sums.Adler(0xfff0fff0, nil), 0xfff0fff0)
}

// P2.2: any checksum to begin with, also with halves that are not below 65521.
func TestAdlerAsTold(t *testing.T) {
	random := rand.New(rand.NewSource(1))
	for _, n := range []int{1, 2, 3, 10, 255, 256, 257, 6000} {
		b := some(random, n)
		for _, sum := range append(adlers(), random.Uint32(), random.Uint32()) {
			wantSum(t, "Adler", sums.Adler(sum, b), plainAdler(sum, b))
		}
	}
}

// P2.2: a half that comes to 65521 exactly is 0.
func TestAdlerReduces(t *testing.T) {
	wantSum(t, "lower half", sums.Adler(65520, []byte{1}), 0)
	wantSum(t, "upper half", sums.Adler(65520<<16, []byte{1}), 1)
	wantSum(t, "both halves", sums.Adler(65520<<16|65520, []byte{2}), 1)
}

// P2.2: many bytes do not overflow, the greatest ones least of all.
func TestAdlerOfManyBytes(t *testing.T) {
	for _, n := range []int{5552, 5553, 100000, 1<<20 - 1, 1 << 20, 1<<20 + 1, 3<<20 + 7} {
		b := bytes.Repeat([]byte{0xff}, n)
		wantSum(t, "from 1", sums.Adler(1, b), adler32.Checksum(b))
		wantSum(t, "from the greatest", sums.Adler(0xfff0fff0, b), plainAdler(0xfff0fff0, b))
	}
	b := some(rand.New(rand.NewSource(2)), 2500000)
	wantSum(t, "other bytes", sums.Adler(1, b), adler32.Checksum(b))
}

// P2.2: the checksum of a sequence is continued, wherever it is divided.
func TestAdlerInParts(t *testing.T) {
	b := some(rand.New(rand.NewSource(3)), 1000)
	want := sums.Adler(1, b)
	for i := range len(b) + 1 {
		wantSum(t, "in two parts", sums.Adler(sums.Adler(1, b[:i]), b[i:]), want)
	}
	sum := uint32(1)
	for i := range b {
		sum = sums.Adler(sum, b[i:i+1])
	}
	wantSum(t, "byte by byte", sum, want)
}

// P2.2 and R4: b isn't changed, with its spare capacity.
func TestAdlerKeepsArgument(t *testing.T) {
	array := []byte("abcdef")
	sums.Adler(5, array[:3])
	if string(array) != "abcdef" {
		t.Errorf("argument: %q", array)
	}
}

// P2.3: the joined checksum is that of both sequences.
func TestJoinAdler(t *testing.T) {
	random := rand.New(rand.NewSource(4))
	for _, n := range []int{0, 1, 2, 3, 255, 1000, 65520, 65521, 65522, 65536, 300000} {
		for _, before := range []int{0, 1, 5, 70000} {
			b := some(random, before+n)
			first, second := sums.Adler(1, b[:before]), sums.Adler(1, b[before:])
			wantSum(t, "JoinAdler", sums.JoinAdler(first, second, n), adler32.Checksum(b))
		}
	}
}

// P2.3: any checksums, also with halves that are not below 65521.
func TestJoinAdlerAsTold(t *testing.T) {
	for _, a := range adlers() {
		for _, b := range adlers() {
			for _, n := range []int{1, 2, 65520, 65521, 65522, math.MaxInt32} {
				wantSum(t, "JoinAdler", sums.JoinAdler(a, b, n), plainJoin(a, b, int64(n)))
			}
		}
	}
}

// P2.3: a length of 0, and one below it, which counts as 0.
func TestJoinAdlerOfNoLength(t *testing.T) {
	for _, n := range []int{0, -1, -65521, -65522, math.MinInt32, math.MinInt, math.MinInt + 1} {
		for _, a := range adlers() {
			for _, b := range adlers() {
				wantSum(t, "JoinAdler", sums.JoinAdler(a, b, n), plainJoin(a, b, 0))
			}
		}
	}
	wantSum(t, "with no bytes", sums.JoinAdler(0x024d0127, 1, 0), 0x024d0127)
	wantSum(t, "with 0, as told", sums.JoinAdler(0, 0, 0), 65520)
}

// P2.3: a length counts modulo 65521, so the greatest ones do not overflow.
func TestJoinAdlerOfManyBytes(t *testing.T) {
	for _, n := range []int{65521 << 40, 1 << 40, 1<<62 + 3, math.MaxInt - 1, math.MaxInt} {
		for _, a := range adlers() {
			wantSum(t, "JoinAdler", sums.JoinAdler(a, 0x024d0127, n), plainJoin(a, 0x024d0127, int64(n%65521)))
		}
	}
	zeros := make([]byte, 1<<21)
	wantSum(t, "2^21 zeros", sums.JoinAdler(0x024d0127, sums.Adler(1, zeros), len(zeros)), sums.Adler(0x024d0127, zeros))
}
