package table_test

import (
	"math"
	"math/rand"
	"strings"
	"testing"

	"concertina/api"
	"concertina/bits"
	"concertina/limit"
	"concertina/table"
)

// outside are numbers that are no symbol of at most 288.
var outside = []int{-1, -2, -8, -15, -288, 288, 289, 512, 65536, 1 << 32, math.MinInt32, math.MaxInt32, math.MinInt, math.MinInt + 1, math.MaxInt}

// P6.2: the code of each symbol is written, and of each that has none nothing.
func TestWrite(t *testing.T) {
	for _, lengths := range append(someCodes(), []int{1}, []int{0, 1, 0}) {
		x := build(t, lengths)
		for symbol, text := range codeTexts(lengths) {
			wantWrite(t, x, symbol, text, text != "")
		}
	}
}

// P6.2: a symbol below 0 or above the last one has no code.
func TestWriteOfNoSymbol(t *testing.T) {
	for _, lengths := range append(someCodes(), nil, []int{}, []int{0}, []int{1}, same(288, 0)) {
		x := build(t, lengths)
		for _, symbol := range append(outside, len(lengths), len(lengths)+1) {
			wantWrite(t, x, symbol, "", false)
		}
	}
}

// P6.2: a symbol without a code, beside others and alone.
func TestWriteWithoutCode(t *testing.T) {
	x := build(t, []int{0, 3, 0, 1, 2, 0, 3, 0})
	for _, symbol := range []int{0, 2, 5, 7} {
		wantWrite(t, x, symbol, "", false)
	}
	for _, symbol := range []int{0, 1, 287} {
		wantWrite(t, build(t, same(288, 0)), symbol, "", false)
	}
}

// P6.2: codes are written one after another, at each place in a byte.
func TestWriteOfAll(t *testing.T) {
	for _, lengths := range someCodes() {
		x, w := build(t, lengths), bits.NewWriter()
		for symbol := range lengths {
			x.Write(w, symbol)
		}
		if got, want := written(w), strings.Join(codeTexts(lengths), ""); got != want {
			t.Errorf("%v: %s instead of %s", lengths, got, want)
		}
	}
}

// P6.2: a nil table writes nothing.
func TestWriteOfNilTable(t *testing.T) {
	var x *table.Table
	for _, symbol := range append(outside, 0, 1, 287) {
		wantWrite(t, x, symbol, "", false)
		if x.Write(nil, symbol) {
			t.Errorf("Write of %d without a writer: true", symbol)
		}
	}
}

// R1: without a writer, Write tells whether there is a code.
func TestWriteWithoutWriter(t *testing.T) {
	x := build(t, []int{1, 0, 1})
	for symbol, want := range []bool{true, false, true, false} {
		if got := x.Write(nil, symbol); got != want {
			t.Errorf("Write of %d: %v", symbol, got)
		}
	}
}

// plainNext is P6.2, as the chapter tells it, with the number of bits that are
// removed.
func plainNext(texts []string, left string) (symbol, n int, err api.Errno) {
	err = api.ErrCode
	if left == "" {
		err = api.ErrEnd
	}
	for symbol, text := range texts {
		if text != "" && strings.HasPrefix(left, text) {
			return symbol, len(text), api.OK
		}
		if text != "" && strings.HasPrefix(text, left) {
			err = api.ErrEnd
		}
	}
	return 0, 0, err
}

// someLengths returns lengths of a code of up to n symbols.
func someLengths(t *testing.T, random *rand.Rand, n int) []int {
	t.Helper()
	freq := make([]int, random.Intn(n+1))
	for i := range freq {
		if random.Intn(3) > 0 {
			freq[i] = 1 << random.Intn(21)
		}
	}
	lengths, err := limit.Lengths(freq, 9+random.Intn(7))
	if err != api.OK {
		t.Fatalf("Lengths(%v): %d", freq, err)
	}
	return lengths
}

// P6.2: any codes and any bits, against the promise as it is told.
func TestNextAsTold(t *testing.T) {
	random := rand.New(rand.NewSource(1))
	for range 600 {
		lengths := someLengths(t, random, []int{3, 20, 288}[random.Intn(3)])
		x, texts := build(t, lengths), codeTexts(lengths)
		for range 40 {
			n := random.Intn(22)
			left := numberText(random.Intn(1<<n), n)
			if symbol, n, err := plainNext(texts, left); err == api.OK {
				wantNext(t, x, left, symbol, n)
			} else {
				wantError(t, x, left, err)
			}
		}
	}
}

// P6.2: what one table writes, another one of the same code reads.
func TestWriteToNext(t *testing.T) {
	random := rand.New(rand.NewSource(2))
	for range 200 {
		lengths := someLengths(t, random, 288)
		a, b, w, r := build(t, lengths), build(t, lengths), bits.NewWriter(), bits.NewReader()
		var symbols []int
		for range 300 {
			symbol := random.Intn(290) - 1
			if a.Write(w, symbol) {
				symbols = append(symbols, symbol)
			}
		}
		w.Align()
		r.Feed(w.Take())
		for i, want := range symbols {
			if got, err := b.Next(r); got != want || err != api.OK {
				t.Fatalf("%v, symbol %d: %d, %d instead of %d", lengths, i, got, err, want)
			}
		}
		if r.Left() >= 8 {
			t.Fatalf("%v: %d bits at the end", lengths, r.Left())
		}
	}
}
