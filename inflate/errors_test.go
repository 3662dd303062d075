package inflate_test

import (
	"fmt"
	"strings"
	"testing"

	"concertina/api"
	"concertina/internal/sample"
)

// wantFailures compares the error of a block whose text, from its kind on, ends
// with the bit that is wrong: as the first block, and behind others, where each
// bit of a byte may be the first one of the block.
func wantFailures(t *testing.T, what string, err api.Errno, texts ...string) {
	t.Helper()
	text := strings.Join(texts, "")
	wantFailure(t, what, packed(inner, text), far, "", err)
	wantFailure(t, what+", last block", packed(last, text), far, "", err)
	for n := range 8 {
		out := strings.Repeat("\xff", n) // 9 bits each
		mark := []string{inner, last}[n%2]
		b := packed(inner, fixedKind, literals(out), fixedEnd, mark, text)
		wantFailure(t, fmt.Sprintf("%s, behind %d bytes", what, n), b, far, out, err)
	}
}

// P12.2: a block of kind 3.
func TestKind3(t *testing.T) {
	wantFailures(t, "kind 3", api.ErrForm, reservedKind)
}

// P12.2: a stored block whose second 16 bits are not the first ones inverted, even
// if only one bit is wrong.
func TestInvertedLength(t *testing.T) {
	for _, n := range []int{0, 1, 5, 256, 65535} {
		for bit := range 16 {
			what := fmt.Sprintf("length %d, bit %d", n, bit)
			wantFailures(t, what, api.ErrForm, storedKind, "|", number(n, 16), number(^n^1<<bit, 16))
			wantFailures(t, what, api.ErrForm, storedKind, "|", number(n^1<<bit, 16), number(^n, 16))
		}
		wantFailures(t, fmt.Sprintf("length %d twice", n), api.ErrForm, storedKind, "|", number(n, 16), number(n, 16))
	}
}

// P12.2: more lengths than the first or the second code may have. The 14 bits are
// read before that.
func TestTooManyLengths(t *testing.T) {
	for _, x := range []struct{ lits, dists int }{{287, 1}, {288, 1}, {287, 30}, {257, 31}, {257, 32}, {286, 31}, {288, 32}} {
		for _, thirds := range []int{4, 19} {
			what := fmt.Sprintf("%d and %d lengths", x.lits, x.dists)
			wantFailures(t, what, api.ErrForm, dynamicKind, counts(x.lits, x.dists, thirds))
		}
	}
}

// P12.2: a 16 at the beginning of the lengths, by any third code.
func TestNothingToRepeat(t *testing.T) {
	wantFailures(t, "16", api.ErrForm, dynamicKind, beginning(257, 1), coded(allThird, 16))
	third := lengthsOf(19, 16, 1)
	wantFailures(t, "16 alone", api.ErrForm, dynamicKind, counts(286, 30, 4), thirdText(third, 4), coded(third, 16))
}

// P12.2: lengths that exceed their number, by one or by many. As many as there
// should be do not.
func TestTooManyRepeated(t *testing.T) {
	t.Parallel()
	for _, x := range []struct{ symbol, least, values int }{{16, 3, 4}, {17, 3, 8}, {18, 11, 128}} {
		for _, value := range []int{0, 1, x.values / 2, x.values - 1} {
			n := x.least + value
			for _, left := range []int{1, 2, n / 2, n - 1} {
				what := fmt.Sprintf("%d, %d lengths instead of %d", x.symbol, n, left)
				wantFailures(t, what, api.ErrForm, dynamicKind, beginning(257, 30), zeros(287-left), run(x.symbol, value))
				wantFailures(t, what, api.ErrForm, dynamicKind, beginning(286, 1), zeros(287-left), run(x.symbol, value))
			}
		}
	}
}

// badCodes are lengths that Build of chapter 6 rejects for some code.
func badCodes() map[string][]int {
	return map[string][]int{
		"three of 1 bit":          {1, 1, 1},
		"one of 2 bits":           {2},
		"one of 7 bits":           {0, 7},
		"two of 2 bits":           {2, 2},
		"of 1 and 2 bits":         {1, 2},
		"of 1, 2 and 3 bits":      {1, 0, 2, 3},
		"two of 1 and one of 7":   {1, 1, 0, 7},
		"one too many":            {2, 2, 2, 3, 3, 3},
		"one too few":             {2, 2, 2, 3},
		"stairs without the last": stairs(7)[:7],
		"stairs and one more":     append(stairs(7), 7),
	}
}

// P12.2: lengths of the third code that are no code, and none at all.
func TestBadThirdCode(t *testing.T) {
	for name, lengths := range badCodes() {
		third := lengthsOf(19)
		for i, n := range lengths {
			third[thirdOrder[i]] = n
		}
		for _, n := range []int{max(len(lengths), 4), 19} {
			wantFailures(t, name, api.ErrCode, dynamicKind, counts(257, 1, n), thirdText(third, n))
		}
	}
	for n := 4; n <= 19; n++ {
		wantFailures(t, fmt.Sprint("none of ", n), api.ErrCode, dynamicKind, counts(257, 1, n), thirdText(noThird, n))
	}
}

// P12.2: lengths of the first or the second code that are no code: an error where
// all lengths end.
func TestBadCodes(t *testing.T) {
	t.Parallel()
	bad := badCodes()
	bad["one of 15 bits"] = []int{15}
	bad["15 bits without the last"] = stairs(15)[:15]
	bad["15 bits and one more"] = append(stairs(15), 15)
	for name, lengths := range bad {
		lits := append(lengthsOf(256), lengths...)
		lits = append(lits, lengthsOf(286-len(lits))...)
		wantFailures(t, name+", first code", api.ErrCode, dynamicKind, head(lits, []int{1}))
		wantFailures(t, name+", first code, 30 lengths", api.ErrCode, dynamicKind, head(lits, same(30, 0)))
		dists := append(lengthsOf(3), lengths...)
		wantFailures(t, name+", second code", api.ErrCode, dynamicKind, head(lengthsOf(257, 'a', 1, 256, 1), dists))
		wantFailures(t, name+", both codes", api.ErrCode, dynamicKind, head(lits, lengths))
	}
}

// P12.2: a first code without EndBlock.
func TestNoEndBlock(t *testing.T) {
	for name, lits := range map[string][]int{
		"no symbol":    lengthsOf(257),
		"one symbol":   lengthsOf(257, 'a', 1),
		"two symbols":  lengthsOf(286, 'a', 1, 257, 1),
		"many symbols": append(same(256, 8), lengthsOf(30)...),
	} {
		wantFailures(t, name, api.ErrCode, dynamicKind, head(lits, []int{1}))
		wantFailures(t, name+", no distance", api.ErrCode, dynamicKind, head(lits, same(30, 0)))
	}
	// Of the second code it would be too late.
	wantFailures(t, "two codes", api.ErrCode, dynamicKind, head(lengthsOf(257, 'a', 1, 'b', 1), same(30, 1)[:2]))
}

// P12.2: bits that are not a code, where a code has a single symbol or none.
func TestNoCode(t *testing.T) {
	third := lengthsOf(19, 18, 1)
	wantFailures(t, "third code", api.ErrCode, dynamicKind, counts(286, 30, 19), thirdText(third, 19), "1")
	wantFailures(t, "third code, later", api.ErrCode, dynamicKind, counts(286, 30, 19), thirdText(third, 19), "0", number(0, 7), "1")
	wantFailures(t, "first code", api.ErrCode, dynamicKind, head(lengthsOf(257, 256, 1), []int{0}), "1")
	lits := lengthsOf(258, 'a', 2, 'b', 2, 256, 2, 257, 2)
	for name, dists := range map[string][]int{"one": {1}, "the second": {0, 1}, "the last": lengthsOf(30, 29, 1)} {
		text := head(lits, dists) + coded(lits, 257) + "1"
		wantFailures(t, "second code, "+name, api.ErrCode, dynamicKind, text)
	}
	for _, bit := range []string{"0", "1"} {
		for _, n := range []int{1, 30} {
			wantFailures(t, "no second code", api.ErrCode, dynamicKind, head(lits, lengthsOf(n)), coded(lits, 257), bit)
		}
	}
}

// P12.2: codes of the fixed codes that are no length and no distance.
func TestNoNumber(t *testing.T) {
	for _, symbol := range []int{286, 287} {
		wantFailures(t, fmt.Sprint("length ", symbol), api.ErrCode, fixedKind, coded(fixedLits, symbol))
	}
	for _, symbol := range []int{30, 31} {
		for _, n := range []int{257, 264, 285} {
			extra := number(0, lenExtras[n-257])
			wantFailures(t, fmt.Sprint("distance ", symbol), api.ErrCode, fixedKind, coded(fixedLits, n), extra, coded(fixedDists, symbol))
		}
	}
}

// P12.2: a distance beyond the beginning of the output, by one or by many, and
// before any output.
func TestTooFarBack(t *testing.T) {
	noise := sample.Noise(32768)
	for i, base := range distBases {
		for _, dist := range []int{base, base + 1<<distExtras[i] - 1} {
			for _, n := range []int{0, 1, dist / 2, dist - 1} {
				if n >= dist {
					continue
				}
				what := fmt.Sprintf("distance %d behind %d bytes", dist, n)
				b := packed(inner, storedKind, storedText(noise[:n]), last, fixedKind, literals(""), fixedMatch(4, dist))
				x := result{noise[:n], api.ErrCode, nil}
				wantSame(t, what, read(b, far), x)
				wantSame(t, what, whole(b, far), x)
				wantSame(t, what, whole(append(b, behind...), far), x)
				wantSame(t, what, inParts(t, b, far, always(10), 7), x)
				wantErr(t, what+", cut off", whole(b[:len(b)-1], far).err, api.ErrEnd)
			}
		}
	}
	wantFailures(t, "few bytes", api.ErrCode, fixedKind, fixedMatch(3, 8))
	lits, dists := lengthsOf(258, 'a', 2, 'b', 2, 256, 2, 257, 2), []int{1}
	wantFailure(t, "dynamic", packed(last, dynamicKind, head(lits, dists), matchText(lits, dists, 3, 1)), far, "", api.ErrCode)
	// A match is output too.
	b := packed(last, fixedKind, literals("ab"), fixedMatch(5, 2), fixedMatch(3, 7), fixedMatch(3, 11))
	wantFailure(t, "behind matches", b, far, "abababaaba", api.ErrCode)
}

// P12.2: of several errors the first one by its position, whatever follows.
func TestFirstError(t *testing.T) {
	for what, x := range map[string]struct {
		err  api.Errno
		text string
	}{
		"kind 3, no match":           {api.ErrForm, reservedKind + fixedMatch(3, 1)},
		"too far back, kind 3":       {api.ErrCode, fixedKind + fixedMatch(3, 7) + fixedEnd + last + reservedKind},
		"no length, too far back":    {api.ErrCode, fixedKind + coded(fixedLits, 286) + fixedMatch(3, 7)},
		"stored length, kind 3":      {api.ErrForm, storedKind + "|" + number(0, 32) + last + reservedKind},
		"numbers, no third code":     {api.ErrForm, dynamicKind + counts(287, 1, 4) + thirdText(noThird, 4)},
		"third code, 16 at once":     {api.ErrCode, dynamicKind + counts(257, 1, 4) + thirdText(lengthsOf(19, 16, 2), 4) + "00"},
		"16 at once, no third code":  {api.ErrForm, dynamicKind + counts(257, 1, 4) + thirdText(lengthsOf(19, 16, 1), 4) + "01"},
		"no third code, 16 at once":  {api.ErrCode, dynamicKind + counts(257, 1, 4) + thirdText(lengthsOf(19, 16, 1), 4) + "10"},
		"too many lengths, no codes": {api.ErrForm, dynamicKind + beginning(257, 1) + zeros(257) + run(17, 0)},
		"no codes, no first code":    {api.ErrCode, dynamicKind + head(lengthsOf(257, 'a', 2), []int{0}) + "11"},
	} {
		for _, more := range []string{"", reservedKind, strings.Repeat("1", 100), strings.Repeat("0", 100)} {
			b := packed(last, x.text, more)
			wantResult(t, what, b, far, result{nil, x.err, nil})
		}
	}
}

// P12.2: the first and the second code are checked where the list of all their
// lengths ends, not before: an error among the lengths comes first.
func TestCodesAreCheckedAtTheEnd(t *testing.T) {
	third := lengthsOf(19, 1, 1, 17, 2, 16, 2) // 1 is 0, 16 is 10, 17 is 11
	begin := counts(286, 30, 18) + thirdText(third, 18)
	ones := strings.Repeat("0", 315)
	// All lengths are 1, which is too many.
	wantFailures(t, "ones", api.ErrCode, dynamicKind, begin, ones, "0")
	wantFailures(t, "ones, then too many", api.ErrForm, dynamicKind, begin, ones, "11", number(0, 3))
	wantFailures(t, "ones, too many", api.ErrForm, dynamicKind, begin, ones, "10", number(3, 2))
	// There is no EndBlock.
	nothing := zeros(286)
	wantFailures(t, "no EndBlock, then too many", api.ErrForm, dynamicKind, beginning(286, 3), nothing, zeros(1), run(17, 0))
	// The first code is wrong, then the second one.
	wantFailures(t, "both codes", api.ErrCode, dynamicKind, head(lengthsOf(257, 256, 2), []int{1, 1, 1}))
}

// P12.2: the 14 bits with the numbers of lengths are read together: 13 of them are
// not enough for an error. So are the 32 bits of a stored block's length.
func TestReadTogether(t *testing.T) {
	bad := packed(inner, storedKind, storedText("a"), last, dynamicKind, counts(288, 32, 19))
	wantErr(t, "13 bits", whole(bad[:len(bad)-1], far).err, api.ErrEnd)
	wantErr(t, "14 bits", whole(bad, far).err, api.ErrForm)
	bad = packed(inner, storedKind, storedText("a"), last, storedKind, "|", number(0, 16), number(0, 16))
	for i := 1; i <= 4; i++ {
		wantErr(t, fmt.Sprint(i, " bytes of 4 missing"), whole(bad[:len(bad)-i], far).err, api.ErrEnd)
	}
	wantErr(t, "4 bytes", whole(bad, far).err, api.ErrForm)
}
