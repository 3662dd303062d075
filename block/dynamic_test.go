package block_test

import (
	"math/rand"
	"slices"
	"testing"

	"concertina/api"
	"concertina/code"
	"concertina/internal/sample"
	"concertina/limit"
)

// wantDynamic writes a dynamic block, reads it back and compares its codes with
// what chapter 5 asks for.
func wantDynamic(t *testing.T, list []api.Token) *readBlock {
	t.Helper()
	wantBlock(t, 5, api.Dynamic, list, nil, false)
	got := wantBlock(t, 0, api.Dynamic, list, nil, true)
	first, second := frequencies(list)
	wantBest(t, got.lit, first, 15)
	if slices.Max(second) == 0 {
		if !slices.Equal(got.dist, []int{1}) {
			t.Errorf("lengths of the second code without matches: %v", got.dist)
		}
	} else {
		wantBest(t, got.dist, second, 15)
	}
	third := make([]int, 19)
	for _, x := range got.items {
		third[x.symbol]++
	}
	wantBest(t, got.third, third, 7)
	return got
}

// wantBest compares lengths with those of chapter 5: symbols that occur have
// one, others have none, and together they cost as little as may be.
func wantBest(t *testing.T, lengths, freq []int, most int) {
	t.Helper()
	best, _ := limit.Lengths(freq, most)
	if got, want := code.Cost(lengths, freq), code.Cost(best, freq); got != want {
		t.Errorf("cost %d of %v instead of %d", got, lengths, want)
	}
	if err := code.Check(lengths, most); err != api.OK {
		t.Errorf("%v: %d", lengths, err)
	}
	for symbol, f := range freq {
		if has := symbol < len(lengths) && lengths[symbol] > 0; has != (f > 0) {
			t.Errorf("symbol %d, of frequency %d, has a length: %t", symbol, f, has)
		}
	}
}

// P10.1: without tokens, both codes have one length.
func TestDynamicOfNothing(t *testing.T) {
	got := wantDynamic(t, nil)
	want := make([]int, 257)
	want[256] = 1
	if !slices.Equal(got.lit, want) || !slices.Equal(got.dist, []int{1}) {
		t.Errorf("lengths %v and %v", got.lit, got.dist)
	}
}

// P10.1: without matches, code 0 has the only length of the second code.
func TestDynamicWithoutMatches(t *testing.T) {
	for _, text := range []string{"a", "ab", "aaaaaaa", "concertina", "\x00", "\xff\xff\x00", string(sample.Noise(1000))} {
		if got := wantDynamic(t, lits(text)); !slices.Equal(got.dist, []int{1}) || len(got.lit) != 257 {
			t.Errorf("%d bytes: %d lengths and %v", len(text), len(got.lit), got.dist)
		}
	}
}

// P10.1: one literal alone, once and many times: its code and the end's have 1
// bit each.
func TestDynamicOfOneLiteral(t *testing.T) {
	for b := range 256 {
		for _, n := range []int{1, 2, 500} {
			got := wantDynamic(t, slices.Repeat([]api.Token{lit(byte(b))}, n))
			want := make([]int, 257)
			want[b], want[256] = 1, 1
			if !slices.Equal(got.lit, want) || !slices.Equal(got.dist, []int{1}) {
				t.Errorf("literal %d: lengths %v and %v", b, got.lit, got.dist)
			}
		}
	}
}

// P10.1: a single distance code has 1 bit, and so many lengths come before it.
func TestDynamicOfOneDistance(t *testing.T) {
	for c, base := range distBases {
		most := base + 1<<distExtras[c] - 1
		for _, list := range [][]api.Token{
			{match(3, base)},
			{match(3, most)},
			{lit('a'), match(258, base), match(3, most), match(10, (base+most)/2)},
		} {
			got := wantDynamic(t, list)
			want := make([]int, c+1)
			want[c] = 1
			if !slices.Equal(got.dist, want) {
				t.Errorf("distance %d: lengths %v", base, got.dist)
			}
		}
	}
}

// P10.1: every length, with every value of its extra bits.
func TestDynamicLengths(t *testing.T) {
	var all []api.Token
	for n := 3; n <= 258; n++ {
		all = append(all, match(n, n))
		for _, list := range [][]api.Token{{match(n, 1)}, {lit('a'), match(n, 1), match(n, 300)}} {
			got := wantDynamic(t, list)
			if want := 257 + codeOf(n, lenBases) + 1; len(got.lit) != want {
				t.Errorf("length %d: %d lengths instead of %d", n, len(got.lit), want)
			}
		}
	}
	if got := wantDynamic(t, all); len(got.lit) != 286 {
		t.Errorf("%d lengths", len(got.lit))
	}
	// 257 is the last length but one, with extra bits, and 258 has none.
	wantDynamic(t, []api.Token{match(257, 1), match(258, 1), match(257, 2), match(227, 1), match(226, 1)})
}

// P10.1: every distance, with every value of its extra bits.
func TestDynamicDistances(t *testing.T) {
	var all []api.Token
	for dist := 1; dist <= 32768; dist++ {
		all = append(all, match(3+dist%256, dist))
	}
	if got := wantDynamic(t, all); len(got.dist) != 30 {
		t.Errorf("%d distance lengths", len(got.dist))
	}
	var ends []api.Token
	for c, base := range distBases {
		ends = append(ends, match(3, base), match(258, base+1<<distExtras[c]-1), lit('a'))
		if got := wantDynamic(t, ends); len(got.dist) != c+1 {
			t.Errorf("%d distance lengths up to code %d", len(got.dist), c)
		}
	}
}

// steep returns tokens of which each of 17 literals and distances occurs twice
// as often as the one before, so that the best codes without a limit would have
// 16 bits and more.
func steep() []api.Token {
	var list []api.Token
	for i := range 17 {
		list = append(list, slices.Repeat([]api.Token{lit(byte(3 * i))}, 1<<i)...)
		list = append(list, slices.Repeat([]api.Token{match(5, distBases[i])}, 1<<i)...)
	}
	return list
}

// P10.1: codes have at most 15 bits.
func TestDynamicAtMostBits(t *testing.T) {
	got := wantDynamic(t, steep())
	if slices.Max(got.lit) != 15 || slices.Max(got.dist) != 15 {
		t.Errorf("at most %d and %d bits", slices.Max(got.lit), slices.Max(got.dist))
	}
}

// runs returns for how many lengths the items of a symbol stand.
func runs(got *readBlock, symbol int) []int {
	var all []int
	for _, x := range got.items {
		if x.symbol == symbol {
			all = append(all, x.n)
		}
	}
	return all
}

// P10.1: zeros between two lengths, of every number that there can be.
func TestRunsOfZeros(t *testing.T) {
	seen := map[[2]int]bool{}
	for zeros := range 256 {
		list := []api.Token{lit(0), lit(byte(zeros + 1))}
		if zeros == 255 {
			list = list[:1]
		}
		got := wantDynamic(t, list)
		for _, symbol := range []int{17, 18} {
			for _, n := range runs(got, symbol) {
				seen[[2]int{symbol, n}] = true
			}
		}
	}
	for n := 3; n <= 10; n++ {
		if !seen[[2]int{17, n}] {
			t.Errorf("17 never stands for %d zeros", n)
		}
	}
	for n := 11; n <= 138; n++ {
		if !seen[[2]int{18, n}] {
			t.Errorf("18 never stands for %d zeros", n)
		}
	}
}

// P10.1: zeros at the beginning, and in the second code.
func TestRunsOfZerosElsewhere(t *testing.T) {
	for first := range 256 {
		got := wantDynamic(t, []api.Token{lit(byte(first))})
		if got.lit[first] != 1 {
			t.Errorf("literal %d: %v", first, got.lit)
		}
	}
	for last := 1; last < 30; last++ {
		got := wantDynamic(t, []api.Token{match(3, 1), match(3, distBases[last])})
		want := make([]int, last+1)
		want[0], want[last] = 1, 1
		if !slices.Equal(got.dist, want) {
			t.Errorf("distance code %d: %v", last, got.dist)
		}
	}
}

// equals returns literals of which the first ones, as many as asked, have codes
// of 8 bits, as the end has. The others are more frequent, each twice as often
// as the one before, so that all codes together are complete.
func equals(n int) []api.Token {
	var list []api.Token
	for b := range n {
		list = append(list, lit(byte(b)))
	}
	for i := range 8 {
		if weight := 1 << i; (256-n-1)&weight != 0 {
			list = append(list, slices.Repeat([]api.Token{lit(byte(240 + 2*i))}, weight)...)
		}
	}
	return list
}

// P10.1: runs of equal lengths, of every number up to 200.
func TestRunsOfEqualLengths(t *testing.T) {
	seen := map[int]bool{}
	for n := 1; n <= 200; n++ {
		got := wantDynamic(t, equals(n))
		if !slices.Equal(got.lit[:n+1], append(slices.Repeat([]int{8}, n), 0)) {
			t.Errorf("%d equal lengths: %v", n, got.lit)
		}
		for _, r := range runs(got, 16) {
			seen[r] = true
		}
	}
	for n := 3; n <= 6; n++ {
		if !seen[n] {
			t.Errorf("16 never stands for %d lengths", n)
		}
	}
}

// P10.1: all lengths are one list, so that a run can go on from the first code
// to the second one.
func TestRunsAcrossCodes(t *testing.T) {
	seen := map[int]bool{}
	for lengths := 1; lengths <= 7; lengths++ {
		// 8 symbols of the first code, of which so many and the end come last,
		// and 8 of the second one, all of 3 bits.
		list := slices.Repeat(lits("0246802468")[lengths:7], 2)
		for i := range 14 {
			list = append(list, match(3+i%lengths, 1+i%4), match(3+i%lengths, distBases[4+i%4]))
		}
		got := wantBlock(t, 0, api.Dynamic, list, nil, true)
		first, second := frequencies(list)
		wantBest(t, got.lit, first, 15)
		wantBest(t, got.dist, second, 15)
		for _, x := range got.items {
			if x.at < len(got.lit) && x.at+x.n > len(got.lit) {
				seen[x.symbol] = true
			}
		}
	}
	if !seen[16] {
		t.Error("no run goes on into the second code")
	}
}

// P10.1: the lengths of the third code end with the last one above 0, in their
// order: all 19 are there only for codes of 15 bits. There are 12 at least, since
// one of so few distance codes has 4 bits or less.
func TestNumberOfThirdLengths(t *testing.T) {
	var even []api.Token
	for i := range 32 {
		even = append(even, match(3+i%8, distBases[i%16]), lit(byte(i%16)))
	}
	for _, x := range []struct {
		list []api.Token
		want int
	}{
		{nil, 18}, // a code of 1 bit
		{[]api.Token{match(3, 1), match(3, 2), match(4, 3), match(4, 4), lit('a'), lit('a')}, 16}, // of 2 bits
		{even, 12},
		{steep(), 19},
	} {
		got := wantDynamic(t, x.list)
		if got.thirds != x.want {
			t.Errorf("%d lengths of the third code instead of %d: %v, %v", got.thirds, x.want, got.third, got.dist)
		}
	}
	random := rand.New(rand.NewSource(5))
	for range 100 {
		got := wantDynamic(t, someTokens(random, random.Intn(600)))
		if last := thirdOrder[got.thirds-1]; got.third[last] == 0 {
			t.Errorf("%d lengths of the third code: %v", got.thirds, got.third)
		}
	}
}

// P10.1: any tokens are read back.
func TestDynamicOfAnyTokens(t *testing.T) {
	random := rand.New(rand.NewSource(6))
	for range 400 {
		wantDynamic(t, someTokens(random, random.Intn(1<<random.Intn(13))))
	}
}
