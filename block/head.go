package block

import (
	"slices"

	"concertina/api"
	"concertina/bits"
	"concertina/code"
	"concertina/limit"
	"concertina/table"
)

// How many lengths of the three codes are written at least.
const (
	leastLit  = api.EndBlock + 1
	leastDist = 1
	leastHead = 4
)

const (
	headSizes  = 5 + 5 + 4 // bits of the numbers of lengths
	headLength = 3         // bits of a length of the third code
)

// The symbols of the third code that stand for several lengths, and for how
// many at least.
const (
	previous  = 16
	zeros     = 17
	manyZeros = 18

	leastPrevious  = 3
	leastZeros     = 3
	leastManyZeros = 11
)

// order is the order in which the lengths of the third code are written: those
// that are likely to be zero come last, where they can be left out.
var order = [api.HeadCodes]int{16, 17, 18, 0, 8, 7, 9, 6, 10, 5, 11, 4, 12, 3, 13, 2, 14, 1, 15}

// item is a symbol of the third code, with its extra bits.
type item struct {
	symbol, extra, value int
}

// head tells the first two codes of a dynamic block.
type head struct {
	lit, dist int    // the numbers of their lengths
	items     []item // what stands for these lengths
	lengths   []int  // of the third code, as they are written: in order
	table     *table.Table
	bits      int
}

// newHead returns the head for codes of these lengths.
func newHead(lit, dist []int) *head {
	h := &head{lit: len(lit), dist: len(dist)}
	// A run may reach from the first code into the second one.
	h.items = itemsOf(slices.Concat(lit, dist))
	var freq [api.HeadCodes]int
	for _, x := range h.items {
		freq[x.symbol]++
		h.bits += x.extra
	}
	// At most as many symbols as lengths, which these calls allow. They are at
	// least two different ones, so that the code is complete.
	lengths, _ := limit.Lengths(freq[:], api.MaxHeadBits)
	h.table, _ = table.Build(lengths, api.MaxHeadBits)
	h.lengths = cut(inOrder(lengths), leastHead)
	h.bits += headSizes + headLength*len(h.lengths) + code.Cost(lengths, freq[:])
	return h
}

// inOrder returns the lengths of the third code as they are written.
func inOrder(lengths []int) []int {
	out := make([]int, len(order))
	for i, symbol := range order {
		out[i] = lengths[symbol]
	}
	return out
}

// itemsOf returns what stands for the lengths.
func itemsOf(lengths []int) []item {
	var out []item
	for at := 0; at < len(lengths); {
		x, n := nextItem(lengths, at)
		out = append(out, x)
		at += n
	}
	return out
}

// nextItem returns what stands for the lengths from at on, and for how many of
// them it does.
func nextItem(lengths []int, at int) (item, int) {
	v, run := lengths[at], equal(lengths[at:])
	switch {
	case v == 0 && run >= leastManyZeros:
		return repeat(manyZeros, 7, leastManyZeros, run)
	case v == 0 && run >= leastZeros:
		return repeat(zeros, 3, leastZeros, run)
	case at > 0 && lengths[at-1] == v && run >= leastPrevious:
		return repeat(previous, 2, leastPrevious, run)
	}
	return item{symbol: v}, 1
}

// repeat returns the item of a symbol that stands for least lengths and as many
// more as its extra bits say, and for how many lengths of a run it does.
func repeat(symbol, extra, least, run int) (item, int) {
	n := min(run, least+1<<extra-1)
	return item{symbol, extra, n - least}, n
}

// equal returns how many lengths at the beginning are equal.
func equal(lengths []int) int {
	n := 0
	for n < len(lengths) && lengths[n] == lengths[0] {
		n++
	}
	return n
}

// write writes the head.
func (h *head) write(w *bits.Writer) {
	w.Put(uint32(h.lit-leastLit), 5)
	w.Put(uint32(h.dist-leastDist), 5)
	w.Put(uint32(len(h.lengths)-leastHead), 4)
	for _, n := range h.lengths {
		w.Put(uint32(n), headLength)
	}
	for _, x := range h.items {
		h.table.Write(w, x.symbol)
		w.Put(uint32(x.value), x.extra)
	}
}
