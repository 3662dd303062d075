package code_test

import (
	"math"
	"slices"
	"testing"

	"concertina/api"
	"concertina/code"
)

// notLengths are numbers that are no valid length of at least 1.
var notLengths = []int{0, -1, -15, -16, -64, 16, 17, 31, 32, 63, 64, 65, 1 << 20, math.MinInt32, math.MaxInt32, math.MinInt, math.MinInt + 1, math.MaxInt}

// wantNumber compares numbers.
func wantNumber(t *testing.T, what string, got, want int) {
	t.Helper()
	if got != want {
		t.Errorf("%s: %d instead of %d", what, got, want)
	}
}

// wantCheck checks lengths.
func wantCheck(t *testing.T, lengths []int, most int, want api.Errno) {
	t.Helper()
	if err := code.Check(lengths, most); err != want {
		t.Errorf("Check(%v, %d): %d instead of %d", lengths, most, err, want)
	}
}

// wantCheckOfAll checks lengths with each most that they are not above.
func wantCheckOfAll(t *testing.T, lengths []int, want api.Errno) {
	t.Helper()
	for most := max(1, slices.Max(append([]int{0}, lengths...))); most <= api.MaxBits; most++ {
		wantCheck(t, lengths, most, want)
	}
}

// same returns n times the same length.
func same(n, length int) []int {
	return slices.Repeat([]int{length}, n)
}

// fixedLengths are those of the literals and lengths of a fixed block.
func fixedLengths() []int {
	return slices.Concat(same(144, 8), same(112, 9), same(24, 7), same(8, 8))
}

// stairs returns the lengths 1, 2, .. n, n, which are those of a complete code.
func stairs(n int) []int {
	var list []int
	for i := range n {
		list = append(list, i+1)
	}
	return append(list, n)
}

// P4.1: the sum of the powers.
func TestSum(t *testing.T) {
	tests := []struct {
		lengths []int
		want    int
	}{
		{nil, 0},
		{[]int{}, 0},
		{[]int{0}, 0},
		{[]int{1}, 16384},
		{[]int{2}, 8192},
		{[]int{14}, 2},
		{[]int{15}, 1},
		{[]int{15, 15, 15}, 3},
		{[]int{1, 1}, 32768},
		{[]int{1, 1, 1}, 49152},
		{[]int{2, 1, 3, 3}, 32768},
		{[]int{0, 2, 0, 1, 3, 0, 15, 0}, 8192 + 16384 + 4096 + 1},
		{fixedLengths(), 32768},
		{stairs(15), 32768},
	}
	for _, x := range tests {
		wantNumber(t, "Sum", code.Sum(x.lengths), x.want)
	}
	for n := 1; n <= api.MaxBits; n++ {
		wantNumber(t, "Sum of one", code.Sum([]int{n}), 1<<(15-n))
		wantNumber(t, "Sum of all", code.Sum(same(1<<n, n)), 32768)
	}
}

// P4.1: a length that is not from 1 to MaxBits adds nothing.
func TestSumOfOtherLengths(t *testing.T) {
	for _, n := range notLengths {
		wantNumber(t, "Sum alone", code.Sum([]int{n}), 0)
		wantNumber(t, "Sum among others", code.Sum([]int{3, n, 15, n}), 4097)
	}
	wantNumber(t, "Sum of them all", code.Sum(notLengths), 0)
}

// P4.1: Sum takes more lengths than Check, and does not overflow 32 bits.
func TestSumOfManyLengths(t *testing.T) {
	wantNumber(t, "of 289", code.Sum(same(289, 15)), 289)
	wantNumber(t, "of 70000", code.Sum(same(70000, 15)), 70000)
	wantNumber(t, "above 2^32", code.Sum(same(1<<20+1, 1)), (1<<20+1)<<14)
}

// P4.1: complete codes are right with every most that they are not above.
func TestCheckCompleteCodes(t *testing.T) {
	for n := 1; n <= 8; n++ {
		wantCheckOfAll(t, same(1<<n, n), api.OK)
	}
	for n := 1; n <= api.MaxBits; n++ {
		wantCheckOfAll(t, stairs(n), api.OK)
	}
	wantCheckOfAll(t, []int{2, 1, 3, 3}, api.OK)
	wantCheckOfAll(t, []int{0, 3, 0, 1, 2, 0, 3, 0}, api.OK)
	wantCheckOfAll(t, fixedLengths(), api.OK)
}

// P4.1: a sum below 2^MaxBits, by little or by much.
func TestCheckIncompleteCodes(t *testing.T) {
	for n := 2; n <= 8; n++ {
		wantCheckOfAll(t, same(1<<n-1, n), api.ErrCode)
		wantCheckOfAll(t, same(2, n), api.ErrCode)
	}
	for n := 2; n <= api.MaxBits; n++ {
		wantCheckOfAll(t, stairs(n)[:n], api.ErrCode)
	}
	wantCheckOfAll(t, []int{1, 2}, api.ErrCode)
	wantCheckOfAll(t, []int{1, 15}, api.ErrCode)
	wantCheckOfAll(t, []int{15, 15}, api.ErrCode)
	wantCheckOfAll(t, fixedLengths()[:287], api.ErrCode)
}

// P4.1: half of the sum is enough for one code of 1 bit, not for others.
func TestCheckHalfOfTheSum(t *testing.T) {
	wantCheckOfAll(t, []int{2, 2}, api.ErrCode)
	wantCheckOfAll(t, []int{2, 3, 3}, api.ErrCode)
	wantCheckOfAll(t, same(128, 8), api.ErrCode)
	wantCheckOfAll(t, append(stairs(14)[1:], 0), api.ErrCode)
}

// P4.1: a sum above 2^MaxBits, by little or by much.
func TestCheckTooManyCodes(t *testing.T) {
	for n := 1; n <= 8; n++ {
		wantCheckOfAll(t, same(1<<n+1, n), api.ErrCode)
		wantCheckOfAll(t, append(same(1<<n, n), api.MaxBits), api.ErrCode)
	}
	for n := 1; n <= api.MaxBits; n++ {
		wantCheckOfAll(t, append(stairs(n), n), api.ErrCode)
		wantCheckOfAll(t, append(stairs(n), api.MaxBits), api.ErrCode)
	}
	wantCheckOfAll(t, []int{1, 1, 1}, api.ErrCode)
	wantCheckOfAll(t, []int{1, 1, 1, 1}, api.ErrCode)
	wantCheckOfAll(t, []int{1, 2, 2, 15}, api.ErrCode)
	wantCheckOfAll(t, same(288, 1), api.ErrCode)
	wantCheckOfAll(t, same(288, 8), api.ErrCode)
}

// P4.1: exactly one symbol with a code, which is right with 1 bit alone.
func TestCheckOneCode(t *testing.T) {
	for n := 1; n <= api.MaxBits; n++ {
		want := api.ErrCode
		if n == 1 {
			want = api.OK
		}
		wantCheckOfAll(t, []int{n}, want)
		wantCheckOfAll(t, []int{0, 0, n}, want)
		wantCheckOfAll(t, append([]int{n}, same(287, 0)...), want)
		wantCheckOfAll(t, append(same(287, 0), n), want)
	}
}

// P4.1: no symbol with a code.
func TestCheckNoCode(t *testing.T) {
	for _, lengths := range [][]int{nil, {}, {0}, {0, 0}, same(287, 0), same(288, 0)} {
		wantCheckOfAll(t, lengths, api.OK)
	}
}

// P4.1: a most that is not from 1 to MaxBits.
func TestCheckMostOutOfRange(t *testing.T) {
	for _, most := range notLengths {
		for _, lengths := range [][]int{nil, {0}, {1}, {1, 1}, {2, 1, 3, 3}, {15, 15}, {16}, same(289, 0)} {
			wantCheck(t, lengths, most, api.ErrArg)
		}
	}
}

// P4.1: 288 lengths may be, not more, whatever they are.
func TestCheckTooManyLengths(t *testing.T) {
	wantCheck(t, append(same(286, 0), 1, 1), 1, api.OK)
	wantCheck(t, append(same(287, 0), 1, 1), 1, api.ErrArg)
	wantCheck(t, append([]int{1, 1}, same(287, 0)...), 15, api.ErrArg)
	for _, n := range []int{289, 290, 512, 576, 65536, 65824} {
		for _, length := range []int{0, 1, 9, 15} {
			wantCheck(t, same(n, length), 15, api.ErrArg)
		}
	}
}

// P4.1: lengths below 0 or above most, beside a complete code and alone.
func TestCheckLengthOutOfRange(t *testing.T) {
	for most := 1; most <= api.MaxBits; most++ {
		for _, n := range append(notLengths[1:], most+1) {
			wantCheck(t, []int{n}, most, api.ErrArg)
			wantCheck(t, []int{1, 1, n}, most, api.ErrArg)
			wantCheck(t, []int{n, 1, 1}, most, api.ErrArg)
			wantCheck(t, []int{1, n, 0}, most, api.ErrArg)
		}
	}
	wantCheck(t, []int{2, 1, 3, 3}, 3, api.OK)
	wantCheck(t, []int{2, 1, 3, 3}, 2, api.ErrArg)
	wantCheck(t, []int{2, 2, 2, 2}, 1, api.ErrArg)
	wantCheck(t, stairs(8), api.MaxHeadBits, api.ErrArg)
	wantCheck(t, stairs(7), api.MaxHeadBits, api.OK)
}

// P4.1 and R2: ErrArg is named ahead of ErrCode.
func TestCheckNamesErrArgFirst(t *testing.T) {
	wantCheck(t, []int{1, 1, 1, -1}, 15, api.ErrArg)
	wantCheck(t, []int{1, 1, 1}, 16, api.ErrArg)
	wantCheck(t, []int{1, 1, 1}, 0, api.ErrArg)
	wantCheck(t, []int{1, 1, 1, 3}, 2, api.ErrArg)
	wantCheck(t, same(289, 1), 15, api.ErrArg)
}

// P4.1: every list of four lengths, against the promise as it is told.
func TestCheckAsTold(t *testing.T) {
	for i := range 7 * 7 * 7 * 7 {
		lengths := []int{i%7 - 1, i/7%7 - 1, i/49%7 - 1, i/343 - 1}
		for most := range 17 {
			wantCheck(t, lengths, most, plainCheck(lengths, most))
		}
	}
}

// plainCheck is P4.1 for few lengths, as the chapter tells it.
func plainCheck(lengths []int, most int) api.Errno {
	if most < 1 || most > 15 {
		return api.ErrArg
	}
	sum, coded, ones := 0.0, 0, 0
	for _, n := range lengths {
		if n < 0 || n > most {
			return api.ErrArg
		}
		if n > 0 {
			sum += math.Exp2(float64(15 - n))
			coded++
		}
		if n == 1 {
			ones++
		}
	}
	if sum == 32768 || coded == 0 || coded == 1 && ones == 1 {
		return api.OK
	}
	return api.ErrCode
}
