package inflate_test

import (
	"fmt"
	"slices"
	"strings"
	"testing"

	"concertina/api"
	"concertina/internal/sample"
)

// P12.1, example 1: the bytes 3, 0 are an empty stream.
func TestEmptyStream(t *testing.T) {
	wantData(t, "3, 0", []byte{3, 0}, nil)
	wantData(t, "fixed", packed(last, fixedKind, fixedEnd), nil)
	wantData(t, "stored", packed(last, storedKind, storedText("")), nil)
	lits := lengthsOf(257, 256, 1)
	wantData(t, "dynamic", packed(last, dynamicKind, head(lits, []int{0}), "0"), nil)
}

// P12.1: the bytes of a stored block, from none to as many as there can be.
func TestStoredBlock(t *testing.T) {
	for _, n := range []int{1, 2, 255, 256, 257, 40000, 65535} {
		b := sample.Noise(n)
		wantData(t, fmt.Sprint(n, " bytes"), packed(last, storedKind, storedText(b)), b)
	}
}

// P12.1: what is before a byte boundary does not matter, in front of a stored
// block and at the end of the stream.
func TestBitsBeforeAByteBoundary(t *testing.T) {
	wantData(t, "stored", packed(last, storedKind, "10111", storedText("abc")), []byte("abc"))
	wantData(t, "stored behind fixed", packed(inner, fixedKind, literals("x"), fixedEnd, last, storedKind, "1", storedText("abc")), []byte("xabc"))
	wantData(t, "fixed", packed(last, fixedKind, fixedEnd, "111111"), nil)
	wantData(t, "fixed, 8 bits more", packed(last, fixedKind, literals("x"), fixedEnd, "111111"), []byte("x"))
}

// P12.1: every byte by the fixed codes.
func TestFixedLiterals(t *testing.T) {
	var all []byte
	for v := range 256 {
		all = append(all, byte(v))
		wantData(t, fmt.Sprint("byte ", v), packed(last, fixedKind, literals([]byte{byte(v)}), fixedEnd), []byte{byte(v)})
	}
	wantData(t, "all bytes", packed(last, fixedKind, literals(all), fixedEnd), all)
}

// repeated appends n bytes to b, each of them the one dist positions before.
func repeated(b []byte, n, dist int) []byte {
	for range n {
		b = append(b, b[len(b)-dist])
	}
	return b
}

// P12.1, P12.2: every length, with distances that are shorter and longer; code
// 284 with all its extra bits 1 is the length 258 as well.
func TestLengths(t *testing.T) {
	t.Parallel()
	for n := 3; n <= 258; n++ {
		var text strings.Builder
		want := sample.Noise(300)
		for _, dist := range []int{1, 2, 3, n - 1, n, n + 1, 300} {
			text.WriteString(fixedMatch(n, dist))
			want = repeated(want, n, dist)
		}
		b := packed(last, fixedKind, literals(sample.Noise(300)), text.String(), fixedEnd)
		wantData(t, fmt.Sprint("length ", n), b, want)
	}
	other := coded(fixedLits, 284) + "11111" + coded(fixedDists, 0)
	want := repeated([]byte("a"), 258, 1)
	wantData(t, "code 284", packed(last, fixedKind, literals("a"), other, literals("b"), fixedEnd), append(want, 'b'))
	other = coded(fixedLits, 284) + "01111" + coded(fixedDists, 0)
	wantData(t, "code 284, length 257", packed(last, fixedKind, literals("a"), other, fixedEnd), want[:258])
}

// P12.1: the least and the greatest distance of each code, and all distances up
// to 600, as far back as the output goes.
func TestDistances(t *testing.T) {
	var dists []int
	for dist := 1; dist <= 600; dist++ {
		dists = append(dists, dist)
	}
	for i, base := range distBases {
		dists = append(dists, base, base+1<<distExtras[i]-1)
	}
	noise := sample.Noise(65535)
	for _, dist := range dists {
		b := packed(inner, storedKind, storedText(noise[:dist]), last, fixedKind, fixedMatch(5, dist), literals("!"), fixedMatch(3, 1), fixedEnd)
		want := repeated(slices.Clone(noise[:dist]), 5, dist)
		want = append(want, "!!!!"...)
		x := result{want, api.ErrDone, nil}
		what := fmt.Sprint("distance ", dist)
		wantSame(t, what, whole(b, far), x)
		wantSame(t, what, inParts(t, b, far, always(1000), 1000), x)
	}
}

// P12.1: matches reach back into earlier blocks of each kind, as far as WindowSize,
// and the bytes that they repeat may be repeated ones.
func TestMatchesOfEarlierBlocks(t *testing.T) {
	noise := sample.Noise(50000)
	lits := lengthsOf(286, 'a', 2, 256, 2, 257, 2, 285, 2)
	dists := lengthsOf(30, 0, 1, 29, 1)
	text := []string{
		inner, storedKind, storedText(noise),
		inner, fixedKind, fixedMatch(258, 32768), literals("x"), fixedMatch(4, 32768), fixedEnd,
		inner, storedKind, storedText("stored"),
		last, dynamicKind, head(lits, dists), matchText(lits, dists, 258, 32768), coded(lits, 'a'),
		matchText(lits, dists, 3, 1), matchText(lits, dists, 258, 24577), matchText(lits, dists, 258, 32768), coded(lits, 256),
	}
	want := repeated(slices.Clone(noise), 258, 32768)
	want = repeated(append(want, 'x'), 4, 32768)
	want = repeated(append(want, "stored"...), 258, 32768)
	want = repeated(append(want, 'a'), 3, 1)
	want = repeated(repeated(want, 258, 24577), 258, 32768)
	wantData(t, "three kinds", packed(text...), want)
}

// P12.1: a window that was exceeded many times by matches alone.
func TestManyMatches(t *testing.T) {
	text := []string{inner, storedKind, storedText(sample.Noise(32768)), last, fixedKind}
	want := sample.Noise(32768)
	for range 500 {
		text = append(text, fixedMatch(258, 32768))
		want = repeated(want, 258, 32768)
	}
	wantData(t, "matches", packed(append(text, fixedEnd)...), want)
}

// P12.1: several blocks of all kinds, in any order, with data and without.
func TestSeveralBlocks(t *testing.T) {
	t.Parallel()
	lits := lengthsOf(258, 'a', 2, 'b', 2, 256, 2, 257, 2)
	dists := []int{1}
	full := map[string]string{
		storedKind:  storedText("stored"),
		fixedKind:   literals("fixed") + fixedMatch(3, 5) + fixedEnd,
		dynamicKind: head(lits, dists) + coded(lits, 'a', 'b') + matchText(lits, dists, 3, 1) + coded(lits, 256),
	}
	data := map[string]string{storedKind: "stored", fixedKind: "fixedfix", dynamicKind: "abbbb"}
	empty := map[string]string{
		storedKind:  storedText(""),
		fixedKind:   fixedEnd,
		dynamicKind: head(lits, dists) + coded(lits, 256),
	}
	kinds := []string{storedKind, fixedKind, dynamicKind}
	for i := range 81 {
		one, two, three, four := kinds[i%3], kinds[i/3%3], kinds[i/9%3], kinds[i/27]
		b := packed(inner, one, full[one], inner, two, empty[two], inner, three, full[three], last, four, empty[four])
		wantData(t, fmt.Sprint(i, ", empty at the end"), b, []byte(data[one]+data[three]))
		b = packed(inner, one, empty[one], inner, two, full[two], inner, three, empty[three], last, four, full[four])
		wantData(t, fmt.Sprint(i, ", empty at the beginning"), b, []byte(data[two]+data[four]))
	}
}

// P12.1: many blocks without data, and what follows them.
func TestManyEmptyBlocks(t *testing.T) {
	t.Parallel()
	for kind, contents := range map[string]string{
		storedKind:  storedText(""),
		fixedKind:   fixedEnd,
		dynamicKind: head(lengthsOf(257, 256, 1), []int{0}) + "0",
	} {
		b := packed(strings.Repeat(inner+kind+contents, 300), last, fixedKind, literals("end"), fixedEnd)
		wantData(t, "kind "+kind, b, []byte("end"))
	}
}
