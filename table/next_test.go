package table_test

import (
	"strings"
	"testing"

	"concertina/api"
	"concertina/bits"
	"concertina/table"
)

// P6.2: the example of the chapter.
func TestExample(t *testing.T) {
	x := build(t, []int{2, 1, 3, 3})
	r := readerOf("0110")
	wantSymbol(t, x, r, 1, "110")
	wantSymbol(t, x, r, 2, "")
	w := bits.NewWriter()
	if !x.Write(w, 1) || !x.Write(w, 2) {
		t.Error("Write: false")
	}
	if got := written(w); got != "0110" {
		t.Errorf("written: %s", got)
	}
}

// P6.2: every symbol of a code, alone and with other bits behind it, of which
// none are removed.
func TestNext(t *testing.T) {
	for _, lengths := range someCodes() {
		x := build(t, lengths)
		for symbol, text := range codeTexts(lengths) {
			if text == "" {
				continue
			}
			for _, rest := range []string{"", "0", "1", "01", "1101", strings.Repeat("0", 40), strings.Repeat("1", 40)} {
				wantNext(t, x, text+rest, symbol, len(text))
			}
		}
	}
}

// P6.2: a code may begin at each place in a byte.
func TestNextAtEachPlace(t *testing.T) {
	for _, lengths := range [][]int{{2, 1, 3, 3}, stairs(15), fixedLengths()} {
		x := build(t, lengths)
		for symbol, text := range codeTexts(lengths) {
			for before := range 8 {
				r := readerOf(strings.Repeat("10", 20)[:before] + text + "0")
				r.Get(before)
				wantSymbol(t, x, r, symbol, "0")
			}
		}
	}
}

// P6.2: symbols one after another, to the end of the bits.
func TestNextOfAll(t *testing.T) {
	for _, lengths := range someCodes() {
		texts := codeTexts(lengths)
		x, r := build(t, lengths), readerOf(strings.Join(texts, ""))
		for symbol, text := range texts {
			if text == "" {
				continue
			}
			if got, err := x.Next(r); got != symbol || err != api.OK {
				t.Fatalf("%v: %d, %d instead of %d", lengths, got, err, symbol)
			}
		}
		if got, err := x.Next(r); got != 0 || err != api.ErrEnd || r.Left() != 0 {
			t.Errorf("%v: %d, %d at the end, %d bits", lengths, got, err, r.Left())
		}
	}
}

// P6.2: codes of MaxBits bits, and the bits of one that are not all there.
func TestNextOfLongestCode(t *testing.T) {
	x := build(t, stairs(15))
	ones := strings.Repeat("1", 15)
	wantNext(t, x, ones, 15, 15)
	wantNext(t, x, ones[:14]+"0", 14, 15)
	wantNext(t, x, ones+"0", 15, 15)
	wantNext(t, x, ones[:13]+"0", 13, 14)
	wantError(t, x, ones[:14], api.ErrEnd)
	x = build(t, append(stairs(7)[:7], same(256, 15)...))
	wantNext(t, x, "1111110"+ones, 6, 7)
	for symbol := range 256 {
		wantNext(t, x, "1111111"+numberText(symbol, 8)+"1", 7+symbol, 15)
		wantError(t, x, "1111111"+numberText(symbol/2, 7), api.ErrEnd)
	}
}

// P6.2: ErrEnd if there are no bits, whatever the code is.
func TestNextOfNoBits(t *testing.T) {
	for _, lengths := range append(someCodes(), nil, []int{0}, same(288, 0), []int{1}, []int{0, 1}) {
		x := build(t, lengths)
		wantError(t, x, "", api.ErrEnd)
		for _, r := range []*bits.Reader{nil, new(bits.Reader), bits.NewReader()} {
			if got, err := x.Next(r); got != 0 || err != api.ErrEnd {
				t.Errorf("%v: %d, %d of no bits", lengths, got, err)
			}
		}
	}
}

// P6.2: ErrEnd for each incomplete prefix of a code; nothing is removed, so
// that the symbol comes when the others are there.
func TestNextOfIncompleteCode(t *testing.T) {
	for _, lengths := range someCodes() {
		x := build(t, lengths)
		for symbol, text := range codeTexts(lengths) {
			for n := range text {
				wantError(t, x, text[:n], api.ErrEnd)
				w, r := bits.NewWriter(), readerOf(text[:n])
				if _, err := x.Next(r); err != api.ErrEnd {
					t.Errorf("%s of %s: %d", text[:n], text, err)
				}
				put(w, text[n:]+"00000000")
				r.Feed(w.Take())
				if got, err := x.Next(r); got != symbol || err != api.OK {
					t.Errorf("%s after %s: %d, %d instead of %d", text[n:], text[:n], got, err, symbol)
				}
			}
		}
	}
}

// P6.2: ErrCode for bits that are neither a code nor a prefix of one; nothing
// is removed.
func TestNextOfOtherBits(t *testing.T) {
	for symbol, lengths := range [][]int{{1}, {0, 1}, {0, 0, 1, 0}, append([]int{0, 0, 0, 1}, same(284, 0)...)} {
		x := build(t, lengths)
		for _, rest := range []string{"", "0", "1", "01", "10", "0000000", strings.Repeat("0", 14), strings.Repeat("0", 15), strings.Repeat("1", 40)} {
			wantNext(t, x, "0"+rest, symbol, 1)
			wantError(t, x, "1"+rest, api.ErrCode)
		}
	}
}

// P6.2: any bits are ErrCode if no symbol has a code.
func TestNextWithoutCodes(t *testing.T) {
	for _, lengths := range [][]int{nil, {}, {0}, {0, 0}, same(288, 0)} {
		x := build(t, lengths)
		for n := 1; n <= 20; n++ {
			wantError(t, x, strings.Repeat("0", n), api.ErrCode)
			wantError(t, x, strings.Repeat("1", n), api.ErrCode)
			wantError(t, x, strings.Repeat("10", n), api.ErrCode)
		}
	}
}

// P6.2: a nil table has ErrCode, also without bits, and removes nothing.
func TestNextOfNilTable(t *testing.T) {
	var x *table.Table
	for _, text := range []string{"", "0", "1", "0110", strings.Repeat("0", 40)} {
		wantError(t, x, text, api.ErrCode)
	}
	if got, err := x.Next(nil); got != 0 || err != api.ErrCode {
		t.Errorf("without a reader: %d, %d", got, err)
	}
}

// R1: a table that was not built has no codes.
func TestZeroTable(t *testing.T) {
	x := new(table.Table)
	wantError(t, x, "", api.ErrEnd)
	wantError(t, x, "0", api.ErrCode)
	wantError(t, x, strings.Repeat("1", 40), api.ErrCode)
	wantWrite(t, x, 0, "", false)
	wantWrite(t, x, 1, "", false)
	wantWrite(t, x, -1, "", false)
}
