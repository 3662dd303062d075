package block

import (
	"concertina/api"
	"concertina/bits"
	"concertina/code"
	"concertina/limit"
)

// dynamic are the contents of a dynamic block: tokens, with codes of their own.
type dynamic struct {
	head   *head
	tokens coded
}

// newDynamic returns the contents of a dynamic block.
func newDynamic(list []api.Token) dynamic {
	c := count(list)
	// The counts are within what these calls allow.
	lit, _ := limit.Lengths(c.lit[:], api.MaxBits)
	dist, _ := limit.Lengths(c.dist[:], api.MaxBits)
	if code.Sum(dist) == 0 {
		// The second code is never without a length.
		dist[0] = 1
	}
	lit, dist = cut(lit, leastLit), cut(dist, leastDist)
	return dynamic{newHead(lit, dist), newCoded(list, c, lit, dist)}
}

// cut removes zeros from the end of lengths, but leaves at least that many.
func cut(lengths []int, least int) []int {
	n := len(lengths)
	for n > least && lengths[n-1] == 0 {
		n--
	}
	return lengths[:n]
}

func (d dynamic) size() int {
	return d.head.bits + d.tokens.size()
}

func (d dynamic) write(w *bits.Writer) {
	d.head.write(w)
	d.tokens.write(w)
}
