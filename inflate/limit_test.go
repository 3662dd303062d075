package inflate_test

import (
	"fmt"
	"math"
	"strings"
	"testing"

	"concertina/api"
	"concertina/deflate"
	"concertina/inflate"
	"concertina/internal/sample"
)

// limitedStream returns a stream whose output comes from all kinds of blocks, and
// this output.
func limitedStream() ([]byte, []byte) {
	lits := lengthsOf(258, 'a', 2, 'b', 2, 256, 2, 257, 2)
	dists := []int{1}
	b := packed(inner, storedKind, storedText("stored"),
		inner, fixedKind, literals("fixed"), fixedMatch(7, 11), fixedMatch(4, 1), literals("!"), fixedEnd,
		inner, storedKind, storedText(""),
		last, dynamicKind, head(lits, dists), coded(lits, 'b', 'a'), matchText(lits, dists, 3, 1), coded(lits, 'b', 256))
	return b, []byte("storedfixedstoredf" + "ffff" + "!" + "ba" + "aaa" + "b")
}

// P12.1, P12.2: with each limit below its length the output has just as many bytes,
// then ErrCap: within a stored block, within matches, and at literals. With a
// limit of its length, or above, it is complete.
func TestLimits(t *testing.T) {
	b, out := limitedStream()
	for most := range out {
		wantResult(t, fmt.Sprint("limit ", most), b, most, result{out[:most], api.ErrCap, nil})
	}
	for _, most := range []int{len(out), len(out) + 1, 1 << 40, math.MaxInt} {
		wantResult(t, fmt.Sprint("limit ", most), b, most, result{out, api.ErrDone, nil})
	}
}

// P12.1: a limit below 0 counts as 0: an empty stream has its end, and another
// one has no byte.
func TestLimitsBelowZero(t *testing.T) {
	b, _ := limitedStream()
	for _, most := range []int{0, -1, -2, -256, -1 << 32, math.MinInt} {
		what := fmt.Sprint("limit ", most)
		wantResult(t, what, []byte{3, 0, 7}, most, result{nil, api.ErrDone, []byte{7}})
		wantResult(t, what, b, most, result{nil, api.ErrCap, nil})
		wantFailure(t, what+", literal", packed(last, fixedKind, literals("\xff")), most, "", api.ErrCap)
		wantFailure(t, what+", stored", packed(last, storedKind, storedText("abc"))[:6], most, "", api.ErrCap)
	}
}

// P12.2: ErrCap is there with the byte that is too much, and not before: with the
// whole literal, the whole match, or the byte of a stored block.
func TestWhereTheLimitIs(t *testing.T) {
	for n := range 8 {
		what := fmt.Sprint(n, " bytes")
		out := strings.Repeat("\xff", n) // 9 bits each
		b := packed(inner, fixedKind, literals(out+"a"))
		wantFailure(t, what+", literal", b, n, out, api.ErrCap)
		b = packed(inner, fixedKind, literals(out), fixedEnd, last, storedKind, "|", number(100, 16), number(^100, 16), bytesText("a"))
		wantFailure(t, what+", stored", b, n, out, api.ErrCap)
		out = "a" + out
		b = packed(inner, fixedKind, literals(out), fixedMatch(5, len(out)))
		wantFailure(t, what+", match", b, len(out), out, api.ErrCap)
		wantFailure(t, what+", within a match", b, len(out)+1, out+"a", api.ErrCap)
	}
}

// P12.2: with the limit reached, blocks without data are read, and other errors
// come first if they are first.
func TestErrorsAtTheLimit(t *testing.T) {
	full := inner + storedKind + storedText("abc")
	b := packed(full, inner, fixedKind, fixedEnd, inner, storedKind, storedText(""), last, fixedKind, fixedEnd)
	wantResult(t, "no more data", b, 3, result{[]byte("abc"), api.ErrDone, nil})
	wantFailure(t, "kind 3", packed(full, inner, fixedKind, fixedEnd, last, reservedKind), 3, "abc", api.ErrForm)
	wantFailure(t, "too far back", packed(full, last, fixedKind, fixedMatch(3, 4)), 3, "abc", api.ErrCode)
	wantFailure(t, "no length", packed(full, last, fixedKind, coded(fixedLits, 286)), 3, "abc", api.ErrCode)
	wantFailure(t, "no distance", packed(full, last, fixedKind, coded(fixedLits, 257), coded(fixedDists, 30)), 3, "abc", api.ErrCode)
	b = packed(full, inner, fixedKind, literals("d"), fixedEnd, last, reservedKind)
	wantResult(t, "literal, then kind 3", b, 3, result{[]byte("abc"), api.ErrCap, nil})
	b = packed(full, inner, fixedKind, fixedMatch(3, 3), fixedMatch(3, 10))
	wantResult(t, "match, then too far back", b, 5, result{[]byte("abcab"), api.ErrCap, nil})
}

// P12.1, P12.2: of a large output too there are just as many bytes as allowed.
func TestLimitsOfMuch(t *testing.T) {
	for name, out := range map[string][]byte{"story": sample.Story(200000), "zeros": make([]byte, 200000), "noise": sample.Noise(200000)} {
		b := deflate.Whole(out, 6)
		for _, most := range []int{1, 258, 259, 32767, 32768, 32769, 65536, 199999, 200000} {
			x := result{out[:most], api.ErrCap, nil}
			if most == len(out) {
				x.err = api.ErrDone
			}
			what := fmt.Sprintf("%s, limit %d", name, most)
			wantSame(t, what, whole(b, most), x)
			wantSame(t, what, inParts(t, b, most, always(1000), 777), x)
		}
	}
}

// P12.1: Take of just what is allowed is OK; the error is behind it.
func TestTakeAtTheLimit(t *testing.T) {
	d := inflate.New(3)
	d.Feed(packed(last, fixedKind, literals("abcd"), fixedEnd))
	wantTake(t, d, 3, "abc", api.OK)
	wantTake(t, d, 0, "", api.OK)
	wantTake(t, d, 1, "", api.ErrCap)
	d = inflate.New(3)
	d.Feed(packed(last, fixedKind, literals("abcd"), fixedEnd))
	wantTake(t, d, 4, "abc", api.ErrEnd)
	wantTake(t, d, 4, "", api.ErrCap)
}
