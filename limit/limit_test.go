package limit_test

import (
	"math"
	"math/rand"
	"slices"
	"testing"

	"concertina/api"
	"concertina/limit"
)

const greatest = 1 << 20 // frequency

// notMost are numbers that are no limit of bits.
var notMost = []int{0, -1, -15, -16, 16, 17, 31, 32, 63, 64, 65, greatest, math.MinInt32, math.MaxInt32, math.MinInt, math.MinInt + 1, math.MaxInt}

// notFreq are numbers that are no frequency.
var notFreq = []int{-1, -2, -greatest, greatest + 1, 2 * greatest, 1 << 32, math.MinInt32, math.MaxInt32, math.MinInt, math.MinInt + 1, math.MaxInt}

// P5.1: the example of the chapter.
func TestExample(t *testing.T) {
	for most := 2; most <= api.MaxBits; most++ {
		wantLengths(t, []int{1, 1, 2}, most, 2, 2, 1)
	}
}

// P5.1: frequencies for which no other lengths cost as little.
func TestLengths(t *testing.T) {
	wantLengths(t, []int{2, 1, 1}, 15, 1, 2, 2)
	wantLengths(t, []int{0, 1, 0, 2, 1, 0}, 15, 0, 2, 0, 1, 2, 0)
	wantLengths(t, []int{5, 5, 5, 5}, 15, 2, 2, 2, 2)
	wantLengths(t, []int{40, 30, 20, 9}, 15, 1, 2, 3, 3)
	wantLengths(t, []int{8, 1, 1, 4, 2}, 15, 1, 4, 4, 2, 3)
	wantLengths(t, []int{7, 6, 5, 4, 3}, 15, 2, 2, 2, 3, 3)
	wantLengths(t, []int{greatest, greatest - 1, 1}, 15, 1, 2, 2)
}

// P5.1: two symbols that occur have 1 bit each, as often as they may occur.
func TestTwoSymbols(t *testing.T) {
	for most := 1; most <= api.MaxBits; most++ {
		for _, f := range []int{1, 2, 1000, greatest - 1, greatest} {
			wantLengths(t, []int{f, 1}, most, 1, 1)
			wantLengths(t, []int{1, f}, most, 1, 1)
			wantLengths(t, []int{0, f, 0, 0, greatest, 0}, most, 0, 1, 0, 0, 1, 0)
		}
	}
}

// P5.1: no frequency above 0.
func TestNoSymbol(t *testing.T) {
	for most := 1; most <= api.MaxBits; most++ {
		wantLengths(t, nil, most)
		wantLengths(t, []int{}, most)
		for _, n := range []int{1, 2, 30, 287, 288} {
			wantLengths(t, same(n, 0), most, same(n, 0)...)
		}
	}
}

// P5.1: exactly one frequency above 0.
func TestOneSymbol(t *testing.T) {
	for most := 1; most <= api.MaxBits; most++ {
		for _, f := range []int{1, 2, 1000, greatest} {
			wantLengths(t, []int{f}, most, 1)
			wantLengths(t, []int{0, f, 0}, most, 0, 1, 0)
			wantLengths(t, append(same(287, 0), f), most, append(same(287, 0), 1)...)
			wantLengths(t, append([]int{f}, same(287, 0)...), most, append([]int{1}, same(287, 0)...)...)
		}
	}
}

// P5.1: exactly 2^most frequencies above 0 have most bits each, and the limit
// admits no more of them.
func TestAsManySymbolsAsTheLimitAdmits(t *testing.T) {
	random := rand.New(rand.NewSource(1))
	for most := 1; most <= 8; most++ {
		n := 1 << most
		for _, freq := range [][]int{same(n, 1), same(n, greatest), numbers(n), shuffled(random, n, greatest)} {
			wantLengths(t, freq, most, same(n, most)...)
			wantLengths(t, append([]int{0, 0}, freq...), most, append([]int{0, 0}, same(n, most)...)...)
			wantError(t, append(freq, 1), most, api.ErrCode)
			wantError(t, append([]int{greatest, 0}, freq...), most, api.ErrCode)
			wantCode(t, append(freq, 1), most+1, treeCost(append(freq, 1), most+1))
		}
	}
	spread := append(slices.Repeat([]int{1, 0}, 32), same(224, 7)...)
	wantLengths(t, spread, 8, append(slices.Repeat([]int{8, 0}, 32), same(224, 8)...)...)
	spread[1] = 1
	wantError(t, spread, 8, api.ErrCode)
}

// numbers returns 1, 2, .. n.
func numbers(n int) []int {
	var list []int
	for i := range n {
		list = append(list, i+1)
	}
	return list
}

// shuffled returns n random frequencies from 1 to most.
func shuffled(random *rand.Rand, n, most int) []int {
	list := make([]int, n)
	for i := range list {
		list[i] = 1 + random.Intn(most)
	}
	return list
}

// P5.1: far more symbols than the limit admits.
func TestTooManySymbols(t *testing.T) {
	for most := 1; most <= 8; most++ {
		wantError(t, same(288, 1), most, api.ErrCode)
		wantError(t, same(288, greatest), most, api.ErrCode)
	}
	wantCode(t, same(288, 1), 9, freeCost(same(288, 1)))
}

// P5.1: the limit makes codes shorter than the best ones without a limit.
func TestLimitedLengths(t *testing.T) {
	wantLengths(t, []int{1, 1, 2, 4, 8}, 15, 4, 4, 3, 2, 1)
	wantLengths(t, []int{1, 1, 2, 4, 8}, 4, 4, 4, 3, 2, 1)
	wantLengths(t, []int{1, 1, 2, 4, 8}, 3, 3, 3, 3, 3, 1)
	wantLengths(t, []int{8, 0, 1, 4, 1, 0, 2}, 3, 1, 0, 3, 3, 3, 0, 3)
	wantLengths(t, []int{1, 1, 2, 3}, 2, 2, 2, 2, 2)
	wantLengths(t, []int{1, 2, 4, 8, 16, 32}, 3, 3, 3, 3, 3, 2, 2)
}

// P5.1: frequencies whose best codes are as long as they can be, with all
// limits.
func TestLimitsOfSteepFrequencies(t *testing.T) {
	for _, freq := range [][]int{doubled(17), doubled(22), fibonacci(17), fibonacci(30)} {
		for most := 1; most <= api.MaxBits; most++ {
			if len(freq) > 1<<most {
				wantError(t, freq, most, api.ErrCode)
				continue
			}
			cost := treeCost(freq, most)
			if cost <= freeCost(freq) {
				t.Errorf("%v: the limit %d takes nothing away", freq, most)
			}
			wantCode(t, freq, most, cost)
		}
	}
}

// P5.1: a limit that the best codes only just keep to.
func TestLimitThatTakesNothingAway(t *testing.T) {
	for n := 2; n <= 16; n++ {
		for most := n - 1; most <= api.MaxBits; most++ {
			wantCode(t, doubled(n), most, freeCost(doubled(n)))
			wantCode(t, fibonacci(n), most, freeCost(fibonacci(n)))
		}
		if n > 3 {
			wantCode(t, doubled(n), n-2, treeCost(doubled(n), n-2))
		}
	}
}

// P5.1: every list of four small frequencies, against all lengths.
func TestAgainstAllLengths(t *testing.T) {
	values := []int{0, 1, 2, 3, 5}
	for i := range 5 * 5 * 5 * 5 {
		freq := []int{values[i%5], values[i/5%5], values[i/25%5], values[i/125]}
		for most := 1; most <= 4; most++ {
			switch n := len(occurring(freq)); {
			case n < 2:
				continue
			case n > 1<<most:
				wantError(t, freq, most, api.ErrCode)
			default:
				wantCode(t, freq, most, leastCost(freq, most))
			}
		}
	}
}

// P5.1: random frequencies of more symbols, against all lengths.
func TestMoreSymbolsAgainstAllLengths(t *testing.T) {
	random := rand.New(rand.NewSource(2))
	for _, x := range []struct{ n, most int }{{5, 3}, {5, 4}, {5, 6}, {6, 3}, {6, 4}, {6, 5}, {7, 3}, {7, 4}, {8, 3}} {
		for range 20 {
			freq := steep(random, x.n)
			wantCode(t, freq, x.most, leastCost(freq, x.most))
		}
	}
}

// steep returns n random frequencies, of which some are far greater than
// others.
func steep(random *rand.Rand, n int) []int {
	list := make([]int, n)
	for i := range list {
		list[i] = 1 + random.Intn(greatest>>random.Intn(21))
	}
	return list
}

// P5.1: random frequencies of many symbols, some of which do not occur.
func TestManySymbols(t *testing.T) {
	random := rand.New(rand.NewSource(3))
	for _, n := range []int{19, 30, 64, 100, 286, 288} {
		for _, most := range []int{api.MaxHeadBits, 8, 9, 11, api.MaxBits} {
			freq := steep(random, n)
			for range n / 8 {
				freq[random.Intn(n)] = 0
			}
			if len(occurring(freq)) <= 1<<most {
				wantCode(t, freq, most, treeCost(freq, most))
			}
		}
	}
}

// P5.1: many symbols that occur equally often, or nearly.
func TestEqualFrequencies(t *testing.T) {
	for n := 2; n <= 288; n++ {
		for _, f := range []int{1, 7, greatest} {
			wantCode(t, same(n, f), 9, freeCost(same(n, f)))
			wantCode(t, same(n, f), api.MaxBits, freeCost(same(n, f)))
		}
		wantCode(t, numbers(n), api.MaxBits, freeCost(numbers(n)))
	}
}

// P5.1: many symbols of a few frequencies, in any order: those that occur
// equally often share the bits, however they stand.
func TestFewFrequencies(t *testing.T) {
	random := rand.New(rand.NewSource(5))
	for n := 2; n <= 288; n++ {
		for _, values := range []int{2, 3, 5} {
			freq := shuffled(random, n, values)
			wantCode(t, freq, api.MaxBits, freeCost(freq))
		}
		freq := shuffled(random, n, 20)
		for i, f := range freq {
			freq[i] = 1 << f
		}
		if n%16 == 0 {
			wantCode(t, freq, 10, treeCost(freq, 10))
		}
	}
}

// P5.1: no code of a symbol is longer than that of one that occurs less often.
func TestFrequentSymbolsHaveShortCodes(t *testing.T) {
	random := rand.New(rand.NewSource(4))
	for most := 6; most <= api.MaxBits; most++ {
		freq := steep(random, 64)
		lengths, _ := limit.Lengths(freq, most)
		for i := range lengths {
			for j := range lengths {
				if freq[i] > freq[j] && lengths[i] > lengths[j] {
					t.Fatalf("Lengths(%v, %d): %v: %d and %d", freq, most, lengths, i, j)
				}
			}
		}
	}
}
