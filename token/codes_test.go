package token_test

import (
	"testing"

	"concertina/token"
)

// row is a code, with its first value and the number of its extra bits.
type row struct {
	code, base, extra int
}

// lenRows are the length codes.
var lenRows = []row{
	{257, 3, 0}, {258, 4, 0}, {259, 5, 0}, {260, 6, 0}, {261, 7, 0}, {262, 8, 0}, {263, 9, 0}, {264, 10, 0},
	{265, 11, 1}, {266, 13, 1}, {267, 15, 1}, {268, 17, 1},
	{269, 19, 2}, {270, 23, 2}, {271, 27, 2}, {272, 31, 2},
	{273, 35, 3}, {274, 43, 3}, {275, 51, 3}, {276, 59, 3},
	{277, 67, 4}, {278, 83, 4}, {279, 99, 4}, {280, 115, 4},
	{281, 131, 5}, {282, 163, 5}, {283, 195, 5}, {284, 227, 5},
	{285, 258, 0},
}

// distRows are the distance codes.
var distRows = []row{
	{0, 1, 0}, {1, 2, 0}, {2, 3, 0}, {3, 4, 0},
	{4, 5, 1}, {5, 7, 1}, {6, 9, 2}, {7, 13, 2}, {8, 17, 3}, {9, 25, 3},
	{10, 33, 4}, {11, 49, 4}, {12, 65, 5}, {13, 97, 5}, {14, 129, 6}, {15, 193, 6},
	{16, 257, 7}, {17, 385, 7}, {18, 513, 8}, {19, 769, 8}, {20, 1025, 9}, {21, 1537, 9},
	{22, 2049, 10}, {23, 3073, 10}, {24, 4097, 11}, {25, 6145, 11}, {26, 8193, 12}, {27, 12289, 12},
	{28, 16385, 13}, {29, 24577, 13},
}

// wantCode compares a code and its extra bits.
func wantCode(t *testing.T, codeOf func(int) (int, int, int), v, code, extra, value int) {
	t.Helper()
	if c, e, x := codeOf(v); c != code || e != extra || x != value {
		t.Errorf("code of %d: %d, %d, %d instead of %d, %d, %d", v, c, e, x, code, extra, value)
	}
}

// wantBase compares what a code stands for.
func wantBase(t *testing.T, baseOf func(int) (int, int, bool), code, base, extra int, ok bool) {
	t.Helper()
	if b, e, k := baseOf(code); b != base || e != extra || k != ok {
		t.Errorf("base of %d: %d, %d, %t instead of %d, %d, %t", code, b, e, k, base, extra, ok)
	}
}

// P8.1: the examples of the chapter.
func TestCodeExamples(t *testing.T) {
	wantCode(t, token.LenCode, 258, 285, 0, 0)
	wantCode(t, token.DistCode, 5, 4, 1, 0)
}

// P8.1: every length, by the rows.
func TestLenCode(t *testing.T) {
	n := 3
	for _, r := range lenRows {
		for value := 0; value < 1<<r.extra && n != 258; value++ {
			wantCode(t, token.LenCode, n, r.code, r.extra, value)
			n++
		}
	}
	wantCode(t, token.LenCode, n, 285, 0, 0)
	if n != 258 {
		t.Errorf("the rows end at %d", n)
	}
}

// P8.1: lengths at the ends of a code's values.
func TestLenCodeAtLimits(t *testing.T) {
	wantCode(t, token.LenCode, 3, 257, 0, 0)
	wantCode(t, token.LenCode, 10, 264, 0, 0)
	wantCode(t, token.LenCode, 11, 265, 1, 0)
	wantCode(t, token.LenCode, 12, 265, 1, 1)
	wantCode(t, token.LenCode, 13, 266, 1, 0)
	wantCode(t, token.LenCode, 130, 280, 4, 15)
	wantCode(t, token.LenCode, 131, 281, 5, 0)
	wantCode(t, token.LenCode, 226, 283, 5, 31)
	wantCode(t, token.LenCode, 227, 284, 5, 0)
	wantCode(t, token.LenCode, 257, 284, 5, 30)
}

// P8.1: what is no length has no code.
func TestLenCodeOfOthers(t *testing.T) {
	for _, n := range append([]int{2, 1, 0, 259, 260, 285, 512}, extremes...) {
		wantCode(t, token.LenCode, n, 0, 0, 0)
	}
}

// P8.1: every distance, by the rows.
func TestDistCode(t *testing.T) {
	d := 1
	for _, r := range distRows {
		for value := range 1 << r.extra {
			wantCode(t, token.DistCode, d, r.code, r.extra, value)
			d++
		}
	}
	if d != 32769 {
		t.Errorf("the rows end before %d", d)
	}
}

// P8.1: distances at the ends of a code's values.
func TestDistCodeAtLimits(t *testing.T) {
	wantCode(t, token.DistCode, 1, 0, 0, 0)
	wantCode(t, token.DistCode, 4, 3, 0, 0)
	wantCode(t, token.DistCode, 6, 4, 1, 1)
	wantCode(t, token.DistCode, 7, 5, 1, 0)
	wantCode(t, token.DistCode, 24576, 28, 13, 8191)
	wantCode(t, token.DistCode, 24577, 29, 13, 0)
	wantCode(t, token.DistCode, 32767, 29, 13, 8190)
	wantCode(t, token.DistCode, 32768, 29, 13, 8191)
}

// P8.1: what is no distance has no code.
func TestDistCodeOfOthers(t *testing.T) {
	for _, d := range append([]int{0, 32770, 40000, 65536}, extremes...) {
		wantCode(t, token.DistCode, d, 0, 0, 0)
	}
}

// P8.1: every code, by the rows.
func TestBases(t *testing.T) {
	for _, r := range lenRows {
		wantBase(t, token.LenBase, r.code, r.base, r.extra, true)
	}
	for _, r := range distRows {
		wantBase(t, token.DistBase, r.code, r.base, r.extra, true)
	}
}

// P8.1: what is no code stands for nothing.
func TestBasesOfOthers(t *testing.T) {
	for _, code := range append([]int{0, 1, 3, 28, 29, 30, 254, 255, 256, 286, 287, 288, 512 + 257, 1<<32 + 257, -257, -285}, extremes...) {
		wantBase(t, token.LenBase, code, 0, 0, false)
	}
	for _, code := range append([]int{30, 31, 32, 255, 256, 257, 285, 1 << 32, 1<<32 + 4, -29, -30}, extremes...) {
		wantBase(t, token.DistBase, code, 0, 0, false)
	}
}

// P8.1: a code's first value and the value of its extra bits, of as many bits
// as it has, are the length or the distance; and no code is left out.
func TestCodesAndBases(t *testing.T) {
	for _, x := range []struct {
		codeOf            func(int) (int, int, int)
		baseOf            func(int) (int, int, bool)
		least, most, rows int
	}{
		{token.LenCode, token.LenBase, 3, 258, 29},
		{token.DistCode, token.DistBase, 1, 32768, 30},
	} {
		codes := map[int]int{}
		for v := x.least; v <= x.most; v++ {
			code, extra, value := x.codeOf(v)
			base, bits, ok := x.baseOf(code)
			if !ok || base+value != v || bits != extra || value < 0 || value >= 1<<extra {
				t.Errorf("%d: %d, %d, %d, and %d, %d, %t", v, code, extra, value, base, bits, ok)
			}
			codes[code]++
		}
		if len(codes) != x.rows {
			t.Errorf("%d codes instead of %d", len(codes), x.rows)
		}
	}
}
