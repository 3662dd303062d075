package block

import (
	"slices"

	"concertina/api"
	"concertina/bits"
	"concertina/code"
	"concertina/table"
	"concertina/token"
)

const (
	fixedLitCodes  = 288 // with two that stand for nothing
	fixedDistCodes = 32  // likewise

	mostTokens = 1<<20 - 1 // of a block
)

// writable tells whether a block can have these tokens.
func writable(list []api.Token) bool {
	if len(list) > mostTokens {
		return false
	}
	for _, t := range list {
		if !token.Sound(t) {
			return false
		}
	}
	return true
}

// FixedLengths returns the lengths of the fixed codes.
func FixedLengths() (lit, dist []int) {
	lit = slices.Concat(
		slices.Repeat([]int{8}, 144),
		slices.Repeat([]int{9}, api.EndBlock-144),
		slices.Repeat([]int{7}, 280-api.EndBlock),
		slices.Repeat([]int{8}, fixedLitCodes-280))
	return lit, slices.Repeat([]int{5}, fixedDistCodes)
}

// counts tell how often the symbols of a block occur, and how many extra bits
// they have in all.
type counts struct {
	lit   [api.LitCodes]int
	dist  [api.DistCodes]int
	extra int
}

// count counts the symbols of sound tokens, and of the end behind them.
func count(list []api.Token) *counts {
	c := &counts{}
	for _, t := range list {
		if t.Len == 0 {
			c.lit[t.Lit]++
			continue
		}
		length, lengthExtra, _ := token.LenCode(t.Len)
		dist, distExtra, _ := token.DistCode(t.Dist)
		c.lit[length]++
		c.dist[dist]++
		c.extra += lengthExtra + distExtra
	}
	c.lit[api.EndBlock]++
	return c
}

// coded are tokens with two codes: the contents of a fixed block, and what a
// dynamic one has behind its head.
type coded struct {
	list      []api.Token
	lit, dist *table.Table
	bits      int
}

// newCoded returns tokens with the codes of these lengths.
func newCoded(list []api.Token, c *counts, lit, dist []int) coded {
	// All lengths here are those of complete codes, or of a single one of 1
	// bit, so that there are tables of them.
	litTable, _ := table.Build(lit, api.MaxBits)
	distTable, _ := table.Build(dist, api.MaxBits)
	size := code.Cost(lit, c.lit[:]) + code.Cost(dist, c.dist[:]) + c.extra
	return coded{list: list, lit: litTable, dist: distTable, bits: size}
}

// newFixed returns the contents of a fixed block.
func newFixed(list []api.Token) coded {
	lit, dist := FixedLengths()
	return newCoded(list, count(list), lit, dist)
}

func (c coded) size() int {
	return c.bits
}

func (c coded) write(w *bits.Writer) {
	for _, t := range c.list {
		c.writeToken(w, t)
	}
	c.lit.Write(w, api.EndBlock)
}

// writeToken writes a token by the two codes.
func (c coded) writeToken(w *bits.Writer, t api.Token) {
	if t.Len == 0 {
		c.lit.Write(w, int(t.Lit))
		return
	}
	length, extra, value := token.LenCode(t.Len)
	c.lit.Write(w, length)
	w.Put(uint32(value), extra)
	dist, extra, value := token.DistCode(t.Dist)
	c.dist.Write(w, dist)
	w.Put(uint32(value), extra)
}
