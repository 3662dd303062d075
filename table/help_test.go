package table_test

import (
	"math"
	"slices"
	"strings"
	"testing"

	"concertina/api"
	"concertina/bits"
	"concertina/table"
)

// notMost are numbers that are no limit of bits.
var notMost = []int{0, -1, -15, -16, 16, 17, 31, 32, 63, 64, 65, math.MinInt32, math.MaxInt32, math.MinInt, math.MinInt + 1, math.MaxInt}

// same returns n times the same length.
func same(n, length int) []int {
	return slices.Repeat([]int{length}, n)
}

// stairs returns the lengths 1, 2, .. n, n, which are those of a complete code.
func stairs(n int) []int {
	var list []int
	for i := range n {
		list = append(list, i+1)
	}
	return append(list, n)
}

// fixedLengths are those of the literals and lengths of a fixed block.
func fixedLengths() []int {
	return slices.Concat(same(144, 8), same(112, 9), same(24, 7), same(8, 8))
}

// someCodes returns lengths of complete codes.
func someCodes() [][]int {
	down := stairs(15)
	slices.Reverse(down)
	return [][]int{
		{1, 1},
		{2, 1, 3, 3},
		{0, 3, 0, 1, 2, 0, 3, 0},
		{3, 3, 3, 3, 3, 2, 4, 4},
		{0, 0, 2, 2, 0, 2, 2},
		same(256, 8),
		stairs(7),
		stairs(15),
		down,
		fixedLengths(),
		slices.Concat(same(128, 15), same(100, 0), same(15, 8), same(15, 4)),
	}
}

// build returns the table of a code.
func build(t *testing.T, lengths []int) *table.Table {
	t.Helper()
	x, err := table.Build(lengths, api.MaxBits)
	if err != api.OK || x == nil {
		t.Fatalf("Build(%v): %v, %d", lengths, x, err)
	}
	return x
}

// codeTexts returns the code of each symbol, highest bit first, as chapter 4
// tells it, and nothing for a symbol that has none.
func codeTexts(lengths []int) []string {
	texts := make([]string, len(lengths))
	next := 0
	for n := 1; n <= api.MaxBits; n++ {
		next *= 2
		for symbol, length := range lengths {
			if length == n {
				texts[symbol] = numberText(next, n)
				next++
			}
		}
	}
	return texts
}

// numberText returns the n lowest bits of v, the highest one first.
func numberText(v, n int) string {
	b := make([]byte, n)
	for i := range b {
		b[i] = '0' + byte(v>>(n-1-i)&1)
	}
	return string(b)
}

// put appends the bits of a text to a writer, the first one first.
func put(w *bits.Writer, text string) {
	for _, x := range []byte(text) {
		w.Put(uint32(x-'0'), 1)
	}
}

// readerOf returns a reader whose remaining bits are those of the text. There
// are others before them, since bytes are fed.
func readerOf(text string) *bits.Reader {
	w := bits.NewWriter()
	before := (8 - len(text)%8) % 8
	put(w, strings.Repeat("1", before)+text)
	r := bits.NewReader()
	r.Feed(w.Take())
	r.Get(before)
	return r
}

// remaining returns the remaining bits of a reader, and leaves them there.
func remaining(r *bits.Reader) string {
	mark := *r
	var b []byte
	for mark.Left() > 0 {
		v, _ := mark.Get(1)
		b = append(b, '0'+byte(v))
	}
	return string(b)
}

// written removes and returns the bits of a writer.
func written(w *bits.Writer) string {
	n := w.Bits()
	w.Align()
	r := bits.NewReader()
	r.Feed(w.Take())
	return remaining(r)[:n]
}

// wantNext calls Next for the bits of the text, of which it should remove the
// first ones.
func wantNext(t *testing.T, x *table.Table, text string, symbol, removed int) {
	t.Helper()
	wantSymbol(t, x, readerOf(text), symbol, text[removed:])
}

// wantSymbol calls Next, and compares the symbol and the bits that remain.
func wantSymbol(t *testing.T, x *table.Table, r *bits.Reader, symbol int, rest string) {
	t.Helper()
	text := remaining(r)
	if got, err := x.Next(r); got != symbol || err != api.OK {
		t.Errorf("Next of %s: %d, %d instead of %d", text, got, err, symbol)
	}
	if got := remaining(r); got != rest {
		t.Errorf("Next of %s leaves %q instead of %q", text, got, rest)
	}
}

// wantError calls Next for the bits of the text, which should stay.
func wantError(t *testing.T, x *table.Table, text string, want api.Errno) {
	t.Helper()
	r := readerOf(text)
	if got, err := x.Next(r); got != 0 || err != want {
		t.Errorf("Next of %q: %d, %d instead of 0, %d", text, got, err, want)
	}
	if got := remaining(r); got != text {
		t.Errorf("Next of %q leaves %q", text, got)
	}
}

// wantWrite calls Write after three bits, and compares what is written.
func wantWrite(t *testing.T, x *table.Table, symbol int, want string, wantOK bool) {
	t.Helper()
	w := bits.NewWriter()
	put(w, "101")
	if ok := x.Write(w, symbol); ok != wantOK {
		t.Errorf("Write of %d: %v", symbol, ok)
	}
	if got := written(w); got != "101"+want {
		t.Errorf("Write of %d: %s after 101", symbol, got)
	}
}
