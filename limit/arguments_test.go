package limit_test

import (
	"math"
	"slices"
	"testing"

	"concertina/api"
	"concertina/limit"
)

// P5.1: a limit that is not from 1 to MaxBits.
func TestMostOutOfRange(t *testing.T) {
	for _, most := range notMost {
		for _, freq := range [][]int{nil, {0}, {1}, {1, 1}, {1, 1, 2}, same(30, 5), {-1}, same(289, 0)} {
			wantError(t, freq, most, api.ErrArg)
		}
	}
}

// P5.1: 288 frequencies may be, not more, whatever they are.
func TestTooManyFrequencies(t *testing.T) {
	wantLengths(t, append(same(286, 0), 1, 1), 1, append(same(286, 0), 1, 1)...)
	wantError(t, append(same(287, 0), 1, 1), 1, api.ErrArg)
	wantError(t, append([]int{1, 1}, same(287, 0)...), 15, api.ErrArg)
	for _, n := range []int{289, 290, 512, 576, 65536, 65824} {
		for _, f := range []int{0, 1, greatest} {
			wantError(t, same(n, f), 15, api.ErrArg)
		}
	}
}

// P5.1: a frequency below 0 or above 2^20, alone and beside others.
func TestFrequencyOutOfRange(t *testing.T) {
	for most := 1; most <= api.MaxBits; most++ {
		for _, f := range notFreq {
			wantError(t, []int{f}, most, api.ErrArg)
			wantError(t, []int{f, f}, most, api.ErrArg)
			wantError(t, []int{1, f}, most, api.ErrArg)
			wantError(t, []int{f, 1}, most, api.ErrArg)
			wantError(t, []int{0, f, 0}, most, api.ErrArg)
			wantError(t, append(same(287, 0), f), most, api.ErrArg)
		}
	}
}

// P5.1: the greatest frequency, of as many symbols as there can be.
func TestGreatestFrequency(t *testing.T) {
	wantLengths(t, []int{greatest}, 1, 1)
	wantLengths(t, []int{greatest, greatest, greatest, greatest}, 2, 2, 2, 2, 2)
	for most := 9; most <= api.MaxBits; most++ {
		wantCode(t, same(288, greatest), most, freeCost(same(288, greatest)))
		wantCode(t, append(same(287, greatest), 1), most, freeCost(append(same(287, greatest), 1)))
	}
}

// P5.1 and R2: ErrArg is named ahead of ErrCode.
func TestErrArgIsNamedFirst(t *testing.T) {
	wantError(t, []int{1, 1, 1}, 1, api.ErrCode)
	wantError(t, []int{1, 1, 1, -1}, 1, api.ErrArg)
	wantError(t, []int{greatest + 1, 1, 1, 1}, 1, api.ErrArg)
	wantError(t, []int{1, 1, 1}, 0, api.ErrArg)
	wantError(t, same(289, 1), 1, api.ErrArg)
	wantError(t, same(289, 1), 8, api.ErrArg)
}

// R4: a call does not change its argument, with its spare capacity.
func TestArgumentStays(t *testing.T) {
	freq := []int{5, 1, 0, 9, 2, -7, math.MaxInt}
	for most := 2; most <= api.MaxBits; most++ {
		limit.Lengths(freq[:5], most)
		limit.Lengths(freq, most)
		limit.Lengths(freq[:1], most)
		limit.Lengths(freq[:0], most)
	}
	limit.Lengths(freq[:5], 1)
	if !slices.Equal(freq, []int{5, 1, 0, 9, 2, -7, math.MaxInt}) {
		t.Errorf("argument: %v", freq)
	}
}

// R4 and R5: lengths are new memory, and a call knows nothing of others.
func TestLengthsAreNewMemory(t *testing.T) {
	for _, x := range []struct{ freq, want []int }{{[]int{1, 1, 2}, []int{2, 2, 1}}, {[]int{0, 3}, []int{0, 1}}, {[]int{0, 0}, []int{0, 0}}} {
		freq := slices.Clone(x.freq)
		a, _ := limit.Lengths(freq, 15)
		b, _ := limit.Lengths(freq, 15)
		for i := range a[:cap(a)] {
			a[:cap(a)][i] = 99
		}
		for i := range freq {
			freq[i] = 88
		}
		if !slices.Equal(b, x.want) {
			t.Errorf("lengths: %v instead of %v", b, x.want)
		}
		wantLengths(t, x.freq, 15, x.want...)
	}
}

// R5: the same call has the same result, also where it could be another one.
func TestSameCallSameLengths(t *testing.T) {
	for _, freq := range [][]int{{1, 1, 1}, same(100, 3), slices.Repeat([]int{1, 2, 3, 0}, 60), fibonacci(30)} {
		for most := 8; most <= api.MaxBits; most++ {
			want, _ := limit.Lengths(freq, most)
			limit.Lengths(numbers(200), most)
			wantLengths(t, freq, most, want...)
		}
	}
}
