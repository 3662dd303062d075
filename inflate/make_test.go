package inflate_test

import (
	"slices"
	"strings"

	"concertina/internal/sample"
)

// Streams are made of texts: their bits in order, and a | for zeros up to a byte
// boundary.

// The texts of whether a block is the last one, and of its kind.
const (
	inner        = "0"
	last         = "1"
	storedKind   = "00"
	fixedKind    = "10"
	dynamicKind  = "01"
	reservedKind = "11"
)

// The first values of the length codes and of the distance codes, their numbers of
// extra bits, and the order of the lengths of a third code.
var (
	lenBases, lenExtras   = sample.Lengths()
	distBases, distExtras = sample.Distances()
	thirdOrder            = sample.Order()
)

// The lengths of the fixed codes, of a third code that has all its symbols, and
// of one that has none.
var (
	fixedLits  = slices.Concat(same(144, 8), same(112, 9), same(24, 7), same(8, 8))
	fixedDists = same(32, 5)
	allThird   = slices.Concat(same(13, 4), same(6, 5))
	noThird    = same(19, 0)
)

// same returns n times the same length.
func same(n, length int) []int {
	return slices.Repeat([]int{length}, n)
}

// lengthsOf returns the lengths of n symbols: of pairs of a symbol and its length,
// and otherwise 0.
func lengthsOf(n int, pairs ...int) []int {
	lengths := same(n, 0)
	for pair := range slices.Chunk(pairs, 2) {
		lengths[pair[0]] = pair[1]
	}
	return lengths
}

// number returns the n lowest bits of v, the lowest one first.
func number(v, n int) string {
	b := make([]byte, n)
	for i := range b {
		b[i] = '0' + byte(v>>i&1)
	}
	return string(b)
}

// codesOf returns the code of each symbol, the highest bit first, as chapter 4
// tells it.
func codesOf(lengths []int) []string {
	codes := make([]string, len(lengths))
	next := 0
	for n := 1; n <= 15; n++ {
		next *= 2
		for symbol, length := range lengths {
			if length == n {
				b := []byte(number(next, n))
				slices.Reverse(b)
				codes[symbol] = string(b)
				next++
			}
		}
	}
	return codes
}

// coded returns the codes of symbols.
func coded(lengths []int, symbols ...int) string {
	codes := codesOf(lengths)
	var b strings.Builder
	for _, symbol := range symbols {
		if codes[symbol] == "" {
			panic("a symbol without a code")
		}
		b.WriteString(codes[symbol])
	}
	return b.String()
}

// bytesText returns the bits of bytes.
func bytesText[T string | []byte](text T) string {
	var b strings.Builder
	for _, v := range []byte(text) {
		b.WriteString(number(int(v), 8))
	}
	return b.String()
}

// storedText returns what a stored block has behind its kind.
func storedText[T string | []byte](text T) string {
	return "|" + number(len(text), 16) + number(^len(text), 16) + bytesText(text)
}

// literals returns the fixed codes of bytes.
func literals[T string | []byte](text T) string {
	var symbols []int
	for _, v := range []byte(text) {
		symbols = append(symbols, int(v))
	}
	return coded(fixedLits, symbols...)
}

// fixedEnd is the end of a block with the fixed codes.
const fixedEnd = "0000000"

// matchText returns a match by these codes.
func matchText(lits, dists []int, n, dist int) string {
	// Length 258 has a code of its own, which comes last.
	code, _ := slices.BinarySearch(lenBases, n+1)
	code--
	distCode, _ := slices.BinarySearch(distBases, dist+1)
	distCode--
	return coded(lits, 257+code) + number(n-lenBases[code], lenExtras[code]) +
		coded(dists, distCode) + number(dist-distBases[distCode], distExtras[distCode])
}

// fixedMatch returns a match by the fixed codes.
func fixedMatch(n, dist int) string {
	return matchText(fixedLits, fixedDists, n, dist)
}

// counts returns the numbers of lengths that a dynamic block begins with.
func counts(lits, dists, thirds int) string {
	return number(lits-257, 5) + number(dists-1, 5) + number(thirds-4, 4)
}

// thirdText returns the first n lengths of the third code, in their order.
func thirdText(lengths []int, n int) string {
	var b strings.Builder
	for _, symbol := range thirdOrder[:n] {
		b.WriteString(number(lengths[symbol], 3))
	}
	return b.String()
}

// beginning returns the head of a dynamic block up to where the lengths of the
// first two codes begin, with a third code that has all its symbols.
func beginning(lits, dists int) string {
	return counts(lits, dists, 19) + thirdText(allThird, 19)
}

// lengthsText returns lengths one by one, by that third code.
func lengthsText(lengths ...int) string {
	return coded(allThird, lengths...)
}

// run returns a symbol of that third code with its extra bits.
func run(symbol, value int) string {
	return coded(allThird, symbol) + number(value, []int{2, 3, 7}[symbol-16])
}

// zeros returns that many lengths of 0.
func zeros(n int) string {
	return lengthsText(same(n, 0)...)
}

// head returns the head of a dynamic block with these codes.
func head(lits, dists []int) string {
	return beginning(len(lits), len(dists)) + lengthsText(lits...) + lengthsText(dists...)
}

// packed returns the bytes of texts, with zeros up to a byte boundary.
func packed(texts ...string) []byte {
	var b []byte
	n := 0
	for _, v := range []byte(strings.Join(texts, "")) {
		if v == '|' {
			n = 8 * len(b)
			continue
		}
		if n%8 == 0 {
			b = append(b, 0)
		}
		b[n/8] |= (v - '0') << (n % 8)
		n++
	}
	return b
}
