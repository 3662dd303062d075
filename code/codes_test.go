package code_test

import (
	"math"
	"math/rand"
	"slices"
	"testing"

	"concertina/api"
	"concertina/code"
)

// wantCodes compares codes.
func wantCodes(t *testing.T, lengths []int, want ...uint32) {
	t.Helper()
	if got := code.Codes(lengths); !slices.Equal(got, want) {
		t.Errorf("Codes(%v): %v instead of %v", lengths, got, want)
	}
}

// plainCodes is P4.2, as the chapter tells it.
func plainCodes(lengths []int) []uint32 {
	codes := make([]uint32, len(lengths))
	first := 0
	for n := 1; n <= 15; n++ {
		number := 0
		for symbol, length := range lengths {
			if length == n {
				codes[symbol] = uint32(first + number)
				number++
			}
		}
		first = 2 * (first + number)
	}
	return codes
}

// text returns a code's n bits.
func text(v uint32, n int) string {
	b := make([]byte, n)
	for i := range b {
		b[i] = '0' + byte(v>>(n-1-i)&1)
	}
	return string(b)
}

// P4.2: the example of the chapter.
func TestCodesExample(t *testing.T) {
	wantCodes(t, []int{2, 1, 3, 3}, 2, 0, 6, 7)
}

// P4.2: codes of the same length follow each other, in the order of symbols.
func TestCodes(t *testing.T) {
	wantCodes(t, []int{1}, 0)
	wantCodes(t, []int{1, 1}, 0, 1)
	wantCodes(t, []int{2, 2, 2, 2}, 0, 1, 2, 3)
	wantCodes(t, []int{3, 3, 2, 1}, 6, 7, 2, 0)
	wantCodes(t, []int{3, 1, 3, 2}, 6, 0, 7, 2)
	wantCodes(t, []int{3, 3, 3, 3, 3, 2, 4, 4}, 2, 3, 4, 5, 6, 0, 14, 15)
	wantCodes(t, stairs(15), 0, 2, 6, 14, 30, 62, 126, 254, 510, 1022, 2046, 4094, 8190, 16382, 32766, 32767)
}

// P4.2: symbols without a code have 0, and change nothing for the others.
func TestCodesOfSymbolsWithoutOne(t *testing.T) {
	wantCodes(t, nil)
	wantCodes(t, []int{})
	wantCodes(t, []int{0, 0, 0}, 0, 0, 0)
	wantCodes(t, []int{0, 3, 0, 1, 2, 0, 3, 0}, 0, 6, 0, 0, 2, 0, 7, 0)
	for _, n := range notLengths {
		wantCodes(t, []int{n}, 0)
		wantCodes(t, []int{2, n, 1, 3, n, n, 3, n}, 2, 0, 0, 6, 0, 0, 7, 0)
		wantCodes(t, []int{n, 15, 15}, 0, 0, 1)
	}
}

// P4.2: lengths that are not those of a complete code have codes too.
func TestCodesOfOtherSums(t *testing.T) {
	for n := 1; n <= api.MaxBits; n++ {
		wantCodes(t, []int{n}, 0)
		wantCodes(t, []int{0, n, 0, n}, 0, 0, 0, 1)
	}
	wantCodes(t, []int{1, 15}, 0, 1<<14)
	wantCodes(t, []int{1, 1, 1}, 0, 1, 2)
	wantCodes(t, []int{1, 1, 1, 2, 3}, 0, 1, 2, 6, 14)
	wantCodes(t, append(same(287, 1), 15), append(numbers(287), 287<<14)...)
}

// numbers returns 0, 1, .. n - 1.
func numbers(n int) []uint32 {
	var list []uint32
	for i := range n {
		list = append(list, uint32(i))
	}
	return list
}

// P4.2: the codes of a fixed block.
func TestCodesOfFixedLengths(t *testing.T) {
	codes := code.Codes(fixedLengths())
	if len(codes) != 288 {
		t.Fatalf("%d codes", len(codes))
	}
	for _, x := range []struct{ symbol, want int }{{0, 48}, {143, 191}, {144, 400}, {255, 511}, {256, 0}, {279, 23}, {280, 192}, {287, 199}} {
		wantNumber(t, "code", int(codes[x.symbol]), x.want)
	}
}

// P4.2: 288 lengths have codes, more of them have none.
func TestCodesOfTooManyLengths(t *testing.T) {
	wantCodes(t, same(288, 15), numbers(288)...)
	wantCodes(t, same(287, 15), numbers(287)...)
	for _, n := range []int{289, 290, 512, 576, 65536, 65824} {
		for _, length := range []int{0, 1, 15} {
			if codes := code.Codes(same(n, length)); codes != nil {
				t.Errorf("%d codes of %d lengths", len(codes), n)
			}
		}
	}
}

// P4.2: any lengths, against the promise as it is told.
func TestCodesAsTold(t *testing.T) {
	random := rand.New(rand.NewSource(1))
	for range 500 {
		lengths := make([]int, random.Intn(289))
		for i := range lengths {
			lengths[i] = random.Intn(20) - 2
		}
		wantCodes(t, lengths, plainCodes(lengths)...)
	}
}

// P4.2: no code of a complete one begins with another.
func TestCodesArePrefixFree(t *testing.T) {
	for _, lengths := range [][]int{{2, 1, 3, 3}, stairs(15), same(256, 8), fixedLengths()} {
		var list []string
		for symbol, v := range code.Codes(lengths) {
			list = append(list, text(v, lengths[symbol]))
		}
		slices.Sort(list)
		for i := 1; i < len(list); i++ {
			if len(list[i]) >= len(list[i-1]) && list[i][:len(list[i-1])] == list[i-1] {
				t.Errorf("%s begins with %s", list[i], list[i-1])
			}
		}
	}
}

// P4.2: the sum of the products.
func TestCost(t *testing.T) {
	tests := []struct {
		lengths, freq []int
		want          int
	}{
		{nil, nil, 0},
		{[]int{}, []int{}, 0},
		{[]int{3}, []int{5}, 15},
		{[]int{2, 1, 3, 3}, []int{10, 100, 1000, 10000}, 20 + 100 + 3000 + 30000},
		{[]int{0, 7, 0}, []int{5, 0, 9}, 0},
		{[]int{15, 1}, []int{1 << 20, 1 << 20}, 16 << 20},
		{[]int{16, 40, 1000}, []int{1, 2, 3}, 16 + 80 + 3000},
	}
	for _, x := range tests {
		wantNumber(t, "Cost", code.Cost(x.lengths, x.freq), x.want)
	}
}

// P4.2: values from 0 to 2^20 count, in both lists, others count as 0.
func TestCostOfOtherValues(t *testing.T) {
	for _, n := range []int{1<<20 + 1, 1 << 21, 1 << 32, math.MaxInt32, math.MaxInt, -1, -1 << 20, math.MinInt32, math.MinInt, math.MinInt + 1} {
		wantNumber(t, "a length", code.Cost([]int{n}, []int{1}), 0)
		wantNumber(t, "a frequency", code.Cost([]int{1}, []int{n}), 0)
		wantNumber(t, "both", code.Cost([]int{n}, []int{n}), 0)
		wantNumber(t, "among others", code.Cost([]int{2, n, 3, 1}, []int{5, 7, n, 100}), 110)
	}
	for _, n := range []int{0, 1, 2, 1<<20 - 1, 1 << 20} {
		wantNumber(t, "a length", code.Cost([]int{n}, []int{3}), 3*n)
		wantNumber(t, "a frequency", code.Cost([]int{3}, []int{n}), 3*n)
		wantNumber(t, "both", code.Cost([]int{n}, []int{n}), n*n)
	}
}

// P4.2: the sum goes as far as both lists go.
func TestCostOfListsOfOtherLengths(t *testing.T) {
	wantNumber(t, "no lengths", code.Cost(nil, []int{1, 2}), 0)
	wantNumber(t, "no frequencies", code.Cost([]int{1, 2}, nil), 0)
	wantNumber(t, "fewer lengths", code.Cost([]int{1, 2}, []int{10, 100, 1000}), 210)
	wantNumber(t, "fewer frequencies", code.Cost([]int{1, 2, 3}, []int{10, 100}), 210)
	array := []int{1, 2, 3, 4}
	wantNumber(t, "spare lengths", code.Cost(array[:2], []int{10, 100, 1000}), 210)
	wantNumber(t, "spare frequencies", code.Cost([]int{10, 100, 1000}, array[:2]), 210)
}

// P4.2: Cost takes more values than Codes.
func TestCostOfManyValues(t *testing.T) {
	wantNumber(t, "of 289", code.Cost(same(289, 2), same(289, 3)), 289*6)
	wantNumber(t, "of 2^20", code.Cost(same(1<<20, 1<<20), same(1<<20, 1<<20)), 1<<60)
}

// R4: no call changes its arguments, with their spare capacity.
func TestArgumentsStay(t *testing.T) {
	lengths, freq := []int{2, 1, 3, 3, 9, 9}, []int{5, 6, 7, 8, 9, -1}
	code.Sum(lengths[:4])
	code.Check(lengths[:4], 3)
	code.Codes(lengths[:4])
	code.Cost(lengths[:4], freq[:4])
	code.Cost(lengths[:4], freq)
	if !slices.Equal(lengths, []int{2, 1, 3, 3, 9, 9}) || !slices.Equal(freq, []int{5, 6, 7, 8, 9, -1}) {
		t.Errorf("arguments: %v %v", lengths, freq)
	}
}

// R4 and R5: codes are new memory, and a call knows nothing of others.
func TestCodesAreNewMemory(t *testing.T) {
	lengths := []int{2, 1, 3, 3}
	a := code.Codes(lengths)
	b := code.Codes(lengths)
	for i := range a[:cap(a)] {
		a[:cap(a)][i] = 99
	}
	lengths[0] = 15
	if !slices.Equal(b, []uint32{2, 0, 6, 7}) {
		t.Errorf("codes: %v", b)
	}
	wantCodes(t, []int{2, 1, 3, 3}, 2, 0, 6, 7)
}
