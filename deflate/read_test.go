package deflate_test

import (
	"slices"
	"testing"

	"concertina/internal/sample"
)

// The first values of the length codes and of the distance codes, their numbers of
// extra bits, and the order of the lengths of a third code.
var (
	lenBases, lenExtras   = sample.Lengths()
	distBases, distExtras = sample.Distances()
	thirdOrder            = sample.Order()
)

// readBlock tells what a block of a stream is.
type readBlock struct {
	kind int
	last bool
	n    int // how many bytes of data it has
	far  int // the greatest distance of its matches
	back int // how many bytes before the block its matches reach at most
}

// stream is read bit by bit.
type stream struct {
	t      *testing.T
	b      []byte
	at     int
	data   []byte
	blocks []readBlock
}

// bit returns the next bit.
func (s *stream) bit() int {
	if s.at >= 8*len(s.b) {
		s.t.Fatalf("the stream of %d bytes ends in block %d", len(s.b), len(s.blocks))
	}
	v := int(s.b[s.at/8]) >> (s.at % 8) & 1
	s.at++
	return v
}

// number returns the next number of n bits.
func (s *stream) number(n int) int {
	v := 0
	for i := range n {
		v |= s.bit() << i
	}
	return v
}

// zeros passes the bits up to the next byte boundary.
func (s *stream) zeros() {
	for s.at%8 != 0 {
		if s.bit() != 0 {
			s.t.Fatalf("bit %d is not zero", s.at-1)
		}
	}
}

// prefixCode is a code: how many codes have each length, and their symbols in
// the order of the codes.
type prefixCode struct {
	counts  [16]int
	symbols []int
}

// codeOf returns the code of these lengths.
func (s *stream) codeOf(lengths []int) *prefixCode {
	c := new(prefixCode)
	sum := 0
	for n := 1; n <= 15; n++ {
		for symbol, length := range lengths {
			if length == n {
				c.counts[n]++
				c.symbols = append(c.symbols, symbol)
				sum += 1 << (15 - n)
			}
		}
	}
	if sum != 1<<15 && len(c.symbols) != 1 {
		s.t.Fatalf("the code of block %d is not complete: %d", len(s.blocks), lengths)
	}
	return c
}

// symbol returns the next symbol.
func (s *stream) symbol(c *prefixCode) int {
	code, first, index := 0, 0, 0
	for n := 1; n <= 15; n++ {
		code |= s.bit()
		if code-first < c.counts[n] {
			return c.symbols[index+code-first]
		}
		index += c.counts[n]
		first = (first + c.counts[n]) << 1
		code <<= 1
	}
	s.t.Fatalf("no code before bit %d", s.at)
	return 0
}

// block reads one block.
func (s *stream) block() readBlock {
	before := len(s.data)
	x := readBlock{last: s.bit() == 1, kind: s.number(2)}
	switch x.kind {
	case 0:
		s.stored()
	case 1:
		lit := slices.Concat(slices.Repeat([]int{8}, 144), slices.Repeat([]int{9}, 112), slices.Repeat([]int{7}, 24), slices.Repeat([]int{8}, 8))
		s.tokens(&x, s.codeOf(lit), s.codeOf(slices.Repeat([]int{5}, 32)))
	case 2:
		lit, dist := s.lengths()
		s.tokens(&x, s.codeOf(lit), s.codeOf(dist))
	default:
		s.t.Fatalf("block %d has kind %d", len(s.blocks), x.kind)
	}
	x.n = len(s.data) - before
	s.blocks = append(s.blocks, x)
	return x
}

// stored reads the bytes of a stored block.
func (s *stream) stored() {
	s.zeros()
	n, inverted := s.number(16), s.number(16)
	if n+inverted != 65535 || n > len(s.b)-s.at/8 {
		s.t.Fatalf("length %x, inverted %x, of %d bytes", n, inverted, len(s.b)-s.at/8)
	}
	s.data = append(s.data, s.b[s.at/8:s.at/8+n]...)
	s.at += 8 * n
}

// lengths reads the lengths of a dynamic block.
func (s *stream) lengths() (lit, dist []int) {
	nLit, nDist, nThird := s.number(5)+257, s.number(5)+1, s.number(4)+4
	third := make([]int, 19)
	for _, symbol := range thirdOrder[:nThird] {
		third[symbol] = s.number(3)
	}
	c := s.codeOf(third)
	var list []int
	for len(list) < nLit+nDist {
		v, n := s.symbol(c), 1
		switch v {
		case 16:
			v, n = list[len(list)-1], 3+s.number(2)
		case 17:
			v, n = 0, 3+s.number(3)
		case 18:
			v, n = 0, 11+s.number(7)
		}
		list = append(list, slices.Repeat([]int{v}, n)...)
	}
	if len(list) != nLit+nDist || nLit > 286 || nDist > 30 {
		s.t.Fatalf("%d lengths for %d and %d", len(list), nLit, nDist)
	}
	return list[:nLit], list[nLit:]
}

// tokens reads tokens of a block, up to the end behind them.
func (s *stream) tokens(x *readBlock, lits, dists *prefixCode) {
	before := len(s.data)
	for {
		v := s.symbol(lits)
		if v == 256 {
			return
		}
		if v < 256 {
			s.data = append(s.data, byte(v))
			continue
		}
		if v > 285 {
			s.t.Fatalf("length code %d", v)
		}
		n := lenBases[v-257] + s.number(lenExtras[v-257])
		d := s.symbol(dists)
		if d > 29 {
			s.t.Fatalf("distance code %d", d)
		}
		dist := distBases[d] + s.number(distExtras[d])
		if n > 258 || dist > len(s.data) {
			s.t.Fatalf("length %d, distance %d behind %d bytes", n, dist, len(s.data))
		}
		x.far = max(x.far, dist)
		x.back = max(x.back, before-(len(s.data)-dist))
		for range n {
			s.data = append(s.data, s.data[len(s.data)-dist])
		}
	}
}

// read reads a stream up to its end, which is the end of its bytes as well.
func read(t *testing.T, b []byte) *stream {
	t.Helper()
	s := &stream{t: t, b: b}
	for !s.block().last {
	}
	s.zeros()
	if s.at != 8*len(b) {
		t.Fatalf("the stream has %d bits in %d bytes", s.at, len(b))
	}
	return s
}

// readFlushed reads what is there of a stream after a Flush: blocks of which
// none is the last one. They end with a stored block without bytes.
func readFlushed(t *testing.T, b []byte) *stream {
	t.Helper()
	s := &stream{t: t, b: b}
	for s.at < 8*len(b) {
		if s.block().last {
			t.Fatalf("block %d is the last one", len(s.blocks)-1)
		}
	}
	if len(s.blocks) == 0 || s.blocks[len(s.blocks)-1] != (readBlock{}) {
		t.Fatalf("the blocks of a flushed stream are %+v", s.blocks)
	}
	return s
}
