package table_test

import (
	"math"
	"slices"
	"testing"

	"concertina/api"
	"concertina/bits"
	"concertina/code"
	"concertina/table"
)

// wantBuild compares the error of Build; there is a table without one only.
func wantBuild(t *testing.T, lengths []int, most int, want api.Errno) {
	t.Helper()
	x, err := table.Build(lengths, most)
	if err != want || (x == nil) != (want != api.OK) {
		t.Errorf("Build(%v, %d): %v, %d instead of %d", lengths, most, x, err, want)
	}
}

// P6.1: lengths of complete codes, with the lowest most, and others.
func TestBuild(t *testing.T) {
	for _, lengths := range someCodes() {
		for most := slices.Max(lengths); most <= api.MaxBits; most++ {
			wantBuild(t, lengths, most, api.OK)
		}
	}
}

// P6.1: no lengths, or none above 0, are a code.
func TestBuildOfNoCode(t *testing.T) {
	for most := 1; most <= api.MaxBits; most++ {
		wantBuild(t, nil, most, api.OK)
		wantBuild(t, []int{}, most, api.OK)
		for _, n := range []int{1, 2, 287, 288} {
			wantBuild(t, same(n, 0), most, api.OK)
		}
	}
}

// P6.1: one length is a code if it is 1.
func TestBuildOfOneCode(t *testing.T) {
	for most := 1; most <= api.MaxBits; most++ {
		wantBuild(t, []int{1}, most, api.OK)
		wantBuild(t, []int{0, 1, 0}, most, api.OK)
		wantBuild(t, append(same(287, 0), 1), most, api.OK)
		for n := 2; n <= most; n++ {
			wantBuild(t, []int{n}, most, api.ErrCode)
			wantBuild(t, []int{0, n, 0}, most, api.ErrCode)
		}
	}
}

// P6.1: ErrCode for an incomplete code.
func TestBuildOfIncompleteCode(t *testing.T) {
	for n := 2; n <= 8; n++ {
		wantBuild(t, same(1<<n-1, n), api.MaxBits, api.ErrCode)
	}
	for n := 2; n <= api.MaxBits; n++ {
		wantBuild(t, stairs(n)[:n], n, api.ErrCode)
	}
	wantBuild(t, []int{1, 2}, 2, api.ErrCode)
	wantBuild(t, []int{2, 2}, 2, api.ErrCode)
	wantBuild(t, []int{15, 15}, 15, api.ErrCode)
}

// P6.1: ErrCode for too many codes.
func TestBuildOfTooManyCodes(t *testing.T) {
	for n := 1; n <= 8; n++ {
		wantBuild(t, same(1<<n+1, n), api.MaxBits, api.ErrCode)
	}
	for n := 1; n <= api.MaxBits; n++ {
		wantBuild(t, append(stairs(n), n), n, api.ErrCode)
		wantBuild(t, append(stairs(n), api.MaxBits), api.MaxBits, api.ErrCode)
	}
}

// P6.1: ErrArg for a most that is not from 1 to MaxBits.
func TestBuildWithMostOutOfRange(t *testing.T) {
	for _, most := range notMost {
		for _, lengths := range [][]int{nil, {0}, {1}, {1, 1}, {2, 1, 3, 3}, {1, 1, 1}} {
			wantBuild(t, lengths, most, api.ErrArg)
		}
	}
}

// P6.1: ErrArg for a length below 0 or above most.
func TestBuildWithLengthOutOfRange(t *testing.T) {
	for most := 1; most <= api.MaxBits; most++ {
		for _, n := range []int{-1, -2, -15, -16, most + 1, 16, 17, 64, math.MaxInt32, math.MinInt32, math.MaxInt, math.MinInt} {
			wantBuild(t, []int{n}, most, api.ErrArg)
			wantBuild(t, []int{n, 1, 1}, most, api.ErrArg)
			wantBuild(t, []int{1, 1, n}, most, api.ErrArg)
		}
	}
	wantBuild(t, []int{2, 1, 3, 3}, 2, api.ErrArg)
	wantBuild(t, stairs(8), api.MaxHeadBits, api.ErrArg)
	wantBuild(t, []int{1, 1, 1, -1}, 15, api.ErrArg)
}

// P6.1: ErrArg for more than 288 lengths.
func TestBuildOfTooManyLengths(t *testing.T) {
	wantBuild(t, append(same(286, 0), 1, 1), 1, api.OK)
	wantBuild(t, append(same(287, 0), 1, 1), 1, api.ErrArg)
	wantBuild(t, append([]int{1, 1}, same(287, 0)...), 15, api.ErrArg)
	for _, n := range []int{289, 290, 512, 576, 65536, 65824} {
		for _, length := range []int{0, 1, 9, 15} {
			wantBuild(t, same(n, length), 15, api.ErrArg)
		}
	}
}

// P6.1: the error of Check, for every list of four lengths.
func TestBuildReturnsErrorOfCheck(t *testing.T) {
	for i := range 7 * 7 * 7 * 7 {
		lengths := []int{i%7 - 1, i/7%7 - 1, i/49%7 - 1, i/343 - 1}
		for most := range 17 {
			wantBuild(t, lengths, most, code.Check(lengths, most))
		}
	}
}

// P6.1: a code is stored with its highest bit first, in both directions.
func TestHighestBitFirst(t *testing.T) {
	x := build(t, []int{2, 1, 3, 3})
	for symbol, want := range []uint32{1, 0, 3, 7} {
		w, r := bits.NewWriter(), bits.NewReader()
		x.Write(w, symbol)
		w.Align()
		b := w.Take()
		if !slices.Equal(b, []byte{byte(want)}) {
			t.Errorf("symbol %d: %x instead of %x", symbol, b, want)
		}
		r.Feed([]byte{byte(want)})
		if got, err := x.Next(r); got != symbol || err != api.OK {
			t.Errorf("the bits of %x: %d, %d instead of %d", want, got, err, symbol)
		}
	}
}

// P6.1: the most bits have the highest one first too.
func TestHighestBitOfLongestCodeFirst(t *testing.T) {
	x := build(t, stairs(15))
	for symbol, want := range map[int][]byte{13: {0xff, 0x1f}, 14: {0xff, 0x3f}, 15: {0xff, 0x7f}} {
		w, r := bits.NewWriter(), bits.NewReader()
		x.Write(w, symbol)
		w.Align()
		if b := w.Take(); !slices.Equal(b, want) {
			t.Errorf("symbol %d: %x instead of %x", symbol, b, want)
		}
		r.Feed(want)
		if got, err := x.Next(r); got != symbol || err != api.OK {
			t.Errorf("%x: %d, %d instead of %d", want, got, err, symbol)
		}
	}
}

// R4: Build does not change its argument, with its spare capacity, and keeps
// none of it.
func TestBuildKeepsArgument(t *testing.T) {
	lengths := []int{2, 1, 3, 3, 9, 9}
	x, _ := table.Build(lengths[:4], 15)
	table.Build(lengths, 15)
	if !slices.Equal(lengths, []int{2, 1, 3, 3, 9, 9}) {
		t.Errorf("argument: %v", lengths)
	}
	clear(lengths)
	wantNext(t, x, "0110", 1, 1)
	wantWrite(t, x, 2, "110", true)
	for i := range lengths {
		lengths[i] = 99
	}
	wantNext(t, x, "10", 0, 2)
	wantWrite(t, x, 0, "10", true)
	wantWrite(t, x, 4, "", false)
}

// R4 and R5: tables do not know of each other.
func TestTablesAreTheirOwn(t *testing.T) {
	lengths := []int{2, 1, 3, 3}
	a := build(t, lengths)
	b := build(t, []int{1, 2, 3, 3})
	c := build(t, lengths)
	wantNext(t, b, "10", 1, 2)
	for _, x := range []*table.Table{a, c, a} {
		wantNext(t, x, "10", 0, 2)
		wantWrite(t, x, 1, "0", true)
		wantWrite(t, b, 1, "10", true)
	}
}
