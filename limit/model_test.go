package limit_test

import (
	"math"
	"slices"
	"testing"

	"concertina/api"
	"concertina/code"
	"concertina/limit"
)

// wantLengths compares lengths, where only one list of them can be right.
func wantLengths(t *testing.T, freq []int, most int, want ...int) {
	t.Helper()
	if got, err := limit.Lengths(freq, most); err != api.OK || !slices.Equal(got, want) {
		t.Errorf("Lengths(%v, %d): %v, %d instead of %v", freq, most, got, err, want)
	}
}

// wantError compares an error, beside which there are no lengths.
func wantError(t *testing.T, freq []int, most int, want api.Errno) {
	t.Helper()
	if got, err := limit.Lengths(freq, most); err != want || got != nil {
		t.Errorf("Lengths(%v, %d): %v, %d instead of %d", freq, most, got, err, want)
	}
}

// wantCode checks the lengths of two and more symbols that occur, whose cost is
// to be as told.
func wantCode(t *testing.T, freq []int, most, cost int) {
	t.Helper()
	lengths, err := limit.Lengths(freq, most)
	if err != api.OK || len(lengths) != len(freq) {
		t.Fatalf("Lengths(%v, %d): %v, %d", freq, most, lengths, err)
	}
	for symbol, n := range lengths {
		if n < 0 || n > most || (n == 0) != (freq[symbol] == 0) {
			t.Errorf("Lengths(%v, %d): %v: symbol %d", freq, most, lengths, symbol)
		}
	}
	if sum := code.Sum(lengths); sum != 1<<api.MaxBits {
		t.Errorf("Lengths(%v, %d): %v: sum %d", freq, most, lengths, sum)
	}
	if got := code.Cost(lengths, freq); got != cost {
		t.Errorf("Lengths(%v, %d): %v: cost %d instead of %d", freq, most, lengths, got, cost)
	}
}

// occurring returns the frequencies above 0, the greatest first.
func occurring(freq []int) []int {
	list := slices.DeleteFunc(slices.Clone(freq), func(f int) bool { return f == 0 })
	slices.SortFunc(list, func(a, b int) int { return b - a })
	return list
}

// leastCost is P5.1 as the chapter tells it, for few symbols: the lowest cost
// of all lists of lengths from 1 to most whose sum is 2^MaxBits.
func leastCost(freq []int, most int) int {
	freq = occurring(freq)
	least := math.MaxInt
	lengths := slices.Repeat([]int{1}, len(freq))
	for {
		if code.Sum(lengths) == 1<<api.MaxBits {
			least = min(least, code.Cost(lengths, freq))
		}
		i := 0
		for i < len(lengths) && lengths[i] == most {
			lengths[i] = 1
			i++
		}
		if i == len(lengths) {
			return least
		}
		lengths[i]++
	}
}

// tree finds the lowest cost for any number of symbols, row by row of a tree:
// the most frequent symbols have the shortest codes.
type tree struct {
	most int
	sums []int          // of the 0, 1, .. least frequencies
	seen map[[3]int]int // costs that were found
}

// treeCost is the lowest cost of a code of at most most bits.
func treeCost(freq []int, most int) int {
	freq = occurring(freq)
	sums := []int{0}
	for _, f := range slices.Backward(freq) {
		sums = append(sums, sums[len(sums)-1]+f)
	}
	x := tree{most, sums, map[[3]int]int{}}
	return x.cost(1, len(freq), 2)
}

// impossible is a cost that no code has.
const impossible = math.MaxInt / 2

// cost returns the cost of the bits from depth on of left symbols that share
// the given nodes at depth.
func (x tree) cost(depth, left, nodes int) int {
	switch {
	case nodes > left || depth > x.most:
		return impossible
	case nodes == left:
		return x.sums[left]
	}
	key := [3]int{depth, left, nodes}
	if cost, ok := x.seen[key]; ok {
		return cost
	}
	cost := impossible
	for leaves := range nodes {
		cost = min(cost, x.sums[left]+x.cost(depth+1, left-leaves, 2*(nodes-leaves)))
	}
	x.seen[key] = cost
	return cost
}

// freeCost is the lowest cost of a code without a limit (Huffman's).
func freeCost(freq []int) int {
	list, cost := occurring(freq), 0
	for len(list) > 1 {
		n := len(list) - 2
		both := list[n] + list[n+1]
		cost += both
		at, _ := slices.BinarySearchFunc(list[:n], both, func(a, b int) int { return b - a })
		list = slices.Insert(list[:n], at, both)
	}
	return cost
}

// same returns n times the same frequency.
func same(n, f int) []int {
	return slices.Repeat([]int{f}, n)
}

// doubled returns the n frequencies 1, 1, 2, 4, 8, ..
func doubled(n int) []int {
	list := []int{1}
	for i := range n - 1 {
		list = append(list, 1<<i)
	}
	return list
}

// fibonacci returns the n frequencies 1, 1, 2, 3, 5, ..
func fibonacci(n int) []int {
	list := []int{1, 1}
	for i := 2; i < n; i++ {
		list = append(list, list[i-1]+list[i-2])
	}
	return list[:n]
}
