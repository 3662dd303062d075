package block_test

import (
	"math/rand"
	"slices"
	"testing"

	"concertina/api"
	"concertina/block"
	"concertina/internal/sample"
)

// P10.2: a stored block costs its header up to the byte boundary, the length
// twice, and its bytes.
func TestCostOfStored(t *testing.T) {
	for _, n := range []int{0, 1, 2, 7, 8, 255, 256, 10000, mostRaw - 1, mostRaw} {
		if got := block.Cost(api.Stored, lits("abc"), sample.Noise(n)); got != 40+8*n {
			t.Errorf("%d bytes: %d bits", n, got)
		}
	}
}

// P10.2: a fixed block costs its header, the codes with their extra bits, and
// the end.
func TestCostOfFixed(t *testing.T) {
	for _, x := range []struct {
		list []api.Token
		want int
	}{
		{nil, 10},
		{lits("abc"), 34},
		{lits("\x8f\x90"), 27},
		{[]api.Token{match(3, 1)}, 22},
		{[]api.Token{match(114, 1)}, 26},   // the last code of 7 bits
		{[]api.Token{match(115, 1)}, 27},   // the first one of 8 bits
		{[]api.Token{match(257, 4)}, 28},   // with 5 extra bits
		{[]api.Token{match(258, 5)}, 24},   // without them, but 1 of the distance
		{[]api.Token{match(3, 32768)}, 35}, // with 13
		{[]api.Token{lit('a'), match(11, 9), lit(255)}, 42},
	} {
		if got := block.Cost(api.Fixed, x.list, sample.Noise(5)); got != x.want {
			t.Errorf("%v: %d bits instead of %d", x.list, got, x.want)
		}
	}
}

// P10.2: blocks of any tokens and bytes cost what WriteKind writes; wantBlock
// compares both.
func TestCostOfAny(t *testing.T) {
	random := rand.New(rand.NewSource(7))
	for range 300 {
		list, raw := someTokens(random, random.Intn(1<<random.Intn(11))), sample.Noise(random.Intn(3000))
		for kind := range 3 {
			wantBlock(t, 0, kind, list, raw, false)
			wantBlock(t, 8, kind, list, raw, true)
			first, second := block.Cost(kind, list, raw), block.Cost(kind, list, raw)
			if first != second || first < 10 {
				t.Errorf("kind %d: cost %d, %d", kind, first, second)
			}
		}
	}
}

// best returns the kind that Write should choose.
func best(list []api.Token, raw []byte) int {
	kind, least := -1, 0
	for k := range 3 {
		if cost := block.Cost(k, list, raw); cost >= 0 && (kind < 0 || cost < least) {
			kind, least = k, cost
		}
	}
	return kind
}

// P10.2: Write chooses each kind where it is best.
func TestWriteEachKind(t *testing.T) {
	wantWrite(t, nil, nil, api.Fixed)
	wantWrite(t, lits("abc"), []byte("abc"), api.Fixed)
	wantWrite(t, lits("abc"), nil, api.Fixed)
	wantWrite(t, lits("abcdef"), nil, api.Stored)
	wantWrite(t, lits(sample.Noise(1000)), sample.Noise(1000), api.Stored)
	wantWrite(t, []api.Token{lit('a'), match(258, 1), match(258, 1)}, make([]byte, 517), api.Fixed)
	text := slices.Repeat([]byte("aaabaaac"), 100)
	wantWrite(t, lits(text), text, api.Dynamic)
	wantWrite(t, lits(text), text[:1], api.Stored)
}

// P10.2: of any tokens and bytes, Write chooses the kind with the lowest Cost.
func TestWriteAny(t *testing.T) {
	random := rand.New(rand.NewSource(8))
	seen := [3]int{}
	for range 1000 {
		list := someTokens(random, random.Intn(1<<random.Intn(11)))
		raw := sample.Noise(random.Intn(2*len(list) + 10))
		want := best(list, raw)
		wantWrite(t, list, raw, want)
		seen[want]++
	}
	for kind, n := range seen {
		if n < 20 {
			t.Errorf("kind %d is best %d times only", kind, n)
		}
	}
}

// P10.2: of a stored and a fixed block with the same cost Write chooses the
// stored one; it does not if there is one byte more.
func TestWriteStoredOrFixed(t *testing.T) {
	for n := range 10 {
		list := lits("0123456789"[:n] + "\xfa\xfb\xfc\xfd\xfe\xff")
		raw := sample.Noise(n + 3)
		if a, b := block.Cost(api.Stored, list, raw), block.Cost(api.Fixed, list, raw); a != b {
			t.Fatalf("costs %d and %d", a, b)
		}
		wantWrite(t, list, raw, api.Stored)
		wantWrite(t, list, sample.Noise(n+2), api.Stored)
		wantWrite(t, list, sample.Noise(n+4), api.Fixed)
	}
}

// P10.2: of a fixed and a dynamic block with the same cost Write chooses the
// fixed one.
func TestWriteFixedOrDynamic(t *testing.T) {
	same := 0
	for n := range 200 {
		for m := range 3 {
			list := append(slices.Repeat([]api.Token{lit('a')}, n), slices.Repeat([]api.Token{match(3, 1)}, m)...)
			fixed, dynamic := block.Cost(api.Fixed, list, nil), block.Cost(api.Dynamic, list, nil)
			want := api.Fixed
			if dynamic < fixed {
				want = api.Dynamic
			}
			if dynamic == fixed {
				same++
			}
			wantWrite(t, list, sample.Noise(1000), want)
		}
	}
	if same == 0 {
		t.Error("the costs are never the same")
	}
}

// P10.2: of a stored and a dynamic block with the same cost Write chooses the
// stored one; it does not if there is one byte more.
func TestWriteStoredOrDynamic(t *testing.T) {
	same := 0
	for n := range 200 {
		list := lits(slices.Repeat([]byte("ab"), n))
		dynamic := block.Cost(api.Dynamic, list, nil)
		if dynamic >= block.Cost(api.Fixed, list, nil) || dynamic%8 != 0 {
			continue
		}
		same++
		wantWrite(t, list, sample.Noise(dynamic/8-6), api.Stored)
		wantWrite(t, list, sample.Noise(dynamic/8-5), api.Stored)
		wantWrite(t, list, sample.Noise(dynamic/8-4), api.Dynamic)
	}
	if same == 0 {
		t.Error("the costs are never the same")
	}
}

// P10.2: Write chooses by the cost at a byte boundary, wherever it writes: behind
// 5 bits this stored block would have 59 bits only.
func TestWriteWithinByte(t *testing.T) {
	list, raw := lits("abc\xfd\xfe\xff"), sample.Noise(3)
	if a, b := block.Cost(api.Stored, list, raw), block.Cost(api.Fixed, list, raw); a != 64 || b != 61 {
		t.Fatalf("costs %d and %d", a, b)
	}
	wantWrite(t, list, raw, api.Fixed)
}

// P10.2: Write chooses a stored block if there can be no other one, another one
// if raw has too many bytes, and none if neither is possible.
func TestWriteWhatIsPossible(t *testing.T) {
	long := sample.Noise(mostRaw + 1)
	many := make([]api.Token, mostTokens+1)
	wantWrite(t, lits("abc"), long, api.Fixed)
	wantWrite(t, nil, long, api.Fixed)
	text := slices.Repeat([]byte("aaabaaac"), 100)
	wantWrite(t, lits(text), long, api.Dynamic)
	wantWrite(t, lits(text), long[1:], api.Dynamic)
	wantWrite(t, many, nil, api.Stored)
	wantWrite(t, many, long[1:], api.Stored)
	wantWrite(t, many, long, -1)
	wantWrite(t, many[1:], long, api.Dynamic)
	wantWrite(t, lits(slices.Repeat(sample.Noise(mostRaw), 16)), long[1:], api.Stored)
	for _, x := range unsound() {
		for _, list := range [][]api.Token{{x}, {lit('a'), x}, {x, lit('a')}} {
			wantWrite(t, list, nil, api.Stored)
			wantWrite(t, list, long[1:], api.Stored)
			wantWrite(t, list, long, -1)
		}
	}
}
