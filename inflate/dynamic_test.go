package inflate_test

import (
	"fmt"
	"slices"
	"testing"

	"concertina/internal/sample"
)

// stairs returns the lengths 1, 2, .. n, n, which are those of a complete code.
func stairs(n int) []int {
	var list []int
	for i := range n {
		list = append(list, i+1)
	}
	return append(list, n)
}

// balanced returns the lengths of a complete code of n symbols, which differ by
// 1 at most.
func balanced(n int) []int {
	bits := 0
	for 2<<bits <= n {
		bits++
	}
	longer := 2 * (n - 1<<bits)
	return append(same(n-longer, bits), same(longer, bits+1)...)
}

// P12.1: codes of all numbers of bits up to 15, with and without extra bits.
func TestLongCodes(t *testing.T) {
	lits, dists := lengthsOf(286), lengthsOf(30)
	symbols := []int{'e', 256, 285, 't', 'a', 257, 'o', 284, 'n', 'i', 's', 0, 255, 270, 'x', 'z'}
	for i, n := range stairs(15) {
		lits[symbols[i]] = n
		dists[i+14] = n
	}
	noise := sample.Noise(33000)
	b := packed(inner, storedKind, storedText(noise), last, dynamicKind, head(lits, dists),
		coded(lits, 'e', 't', 'a', 'o', 'n', 'i', 's', 0, 255, 'x', 'z'),
		matchText(lits, dists, 258, 24577+4095), matchText(lits, dists, 24, 257), matchText(lits, dists, 230, 129),
		matchText(lits, dists, 3, 32768), coded(lits, 'z', 256))
	want := append(noise, "etaonis\x00\xffxz"...)
	want = repeated(repeated(want, 258, 24577+4095), 24, 257)
	want = repeated(repeated(want, 230, 129), 3, 32768)
	wantData(t, "15 bits", b, append(want, 'z'))
}

// P12.1: few and many lengths of the first two codes.
func TestNumbersOfLengths(t *testing.T) {
	for _, nLit := range []int{257, 258, 272, 285, 286} {
		for _, nDist := range []int{1, 2, 16, 29, 30} {
			// The last symbols that have codes are the last ones that may.
			lits := lengthsOf(nLit, 'a', 2, 'b', 2, 256, 2, nLit-1, 2)
			dists := lengthsOf(nDist, nDist-1, 1)
			texts := []string{last, dynamicKind, head(lits, dists), coded(lits, 'a', 'b', 'a')}
			what := fmt.Sprint(nLit, " and ", nDist, " lengths")
			want := []byte("aba")
			if nLit == 257 {
				lits[nLit-1] = 1
				texts = []string{last, dynamicKind, head(lits, dists), coded(lits, 'a', 'b', 'a')}
			} else if nDist <= 2 {
				n := lenBases[nLit-258]
				texts = append(texts, matchText(lits, dists, n, nDist))
				want = repeated(want, n, nDist)
			}
			wantData(t, what, packed(append(texts, coded(lits, 256))...), want)
		}
	}
}

// P12.1: few and many lengths of the third code, in their order. With the first
// four alone no other length than 0 could be told.
func TestNumberOfThirdLengths(t *testing.T) {
	for n := 5; n <= 19; n++ {
		told := slices.Sorted(slices.Values(thirdOrder[4:n]))
		third := lengthsOf(19)
		for i, bits := range balanced(n - 3) {
			third[append(told, 0)[i]] = bits
		}
		least, most := told[0], told[len(told)-1]
		lits := lengthsOf(257)
		at := 257
		for _, bits := range slices.Concat(told, []int{most}, same(1<<least-2, least)) {
			at--
			lits[at] = bits
		}
		b := packed(last, dynamicKind, counts(257, 1, n), thirdText(third, n), coded(third, lits...), coded(third, 0), coded(lits, 255, at, 256))
		wantData(t, fmt.Sprint(n, " lengths"), b, []byte{255, byte(at)})
	}
}

// wantRun tells lengths one by one, but for n of them from at on by that run. A
// match with the first distance of a distance code shows that the codes are right.
func wantRun(t *testing.T, what string, lits, dists []int, at int, text string, n, distCode int) {
	t.Helper()
	noise := sample.Noise(2000)
	all := slices.Concat(lits, dists)
	dist := distBases[distCode]
	b := packed(inner, storedKind, storedText(noise), last, dynamicKind, beginning(len(lits), len(dists)),
		lengthsText(all[:at]...), text, lengthsText(all[at+n:]...),
		coded(lits, 'a', 'b'), matchText(lits, dists, 4, dist), coded(lits, 256))
	wantData(t, what, b, repeated(append(noise, "ab"...), 4, dist))
}

// P12.1: 16 with all values of its extra bits: for a length and for zeros, within
// the first code, within the second one, and from one into the other.
func TestRunsOfTheLengthBefore(t *testing.T) {
	for value := range 4 {
		what, text, n := fmt.Sprint("16, ", value), run(16, value), 3+value
		lits := lengthsOf(261)
		for _, symbol := range []int{0, 1, 'a', 'b', 'c', 'd', 'e', 'f', 'g', 'h', 255, 256, 257, 258, 259, 260} {
			lits[symbol] = 4
		}
		dists := same(16, 4)
		wantRun(t, what+", first code", lits, dists, 'b', text, n, 0)
		wantRun(t, what+", zeros", lits, dists, 'h'+2, text, n, 0)
		wantRun(t, what+", into the second code", lits, dists, 260, text, n, 15)
		wantRun(t, what+", second code", lits, dists, 261, text, n, 1)
		wantRun(t, what+", last lengths", lits, dists, 261+16-n, text, n, 15)
	}
}

// P12.1: 17 and 18 with all values of their extra bits: at the beginning, within
// the first code, from it into the second one, and at the end.
func TestRunsOfZeros(t *testing.T) {
	t.Parallel()
	for symbol, least := range map[int]int{17: 3, 18: 11} {
		values := map[int]int{17: 8, 18: 128}[symbol]
		for value := range values {
			what, text, n := fmt.Sprint(symbol, ", ", value), run(symbol, value), least+value
			lits := lengthsOf(286, 'a', 2, 'b', 2, 256, 2, 258, 2)
			dists := lengthsOf(30, 0, 1)
			if n <= 'a' {
				wantRun(t, what+", beginning", lits, dists, 0, text, n, 0)
			}
			wantRun(t, what+", first code", lits, dists, 'b'+1, text, n, 0)
			if n <= 29 {
				wantRun(t, what+", end", lits, dists, 286+30-n, text, n, 0)
			}
			if n <= 40 {
				dists = lengthsOf(30, 20, 1)
				wantRun(t, what+", into the second code", lits, dists, 286-n/2, text, n, 20)
			}
		}
	}
}
