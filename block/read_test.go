package block_test

import (
	"testing"

	"concertina/api"
	"concertina/internal/sample"
)

// The first values of the length codes and of the distance codes, their numbers of
// extra bits, and the order of the lengths of a third code.
var (
	lenBases, lenExtras   = sample.Lengths()
	distBases, distExtras = sample.Distances()
	thirdOrder            = sample.Order()
)

// readBlock is a block as it is read from a stream.
type readBlock struct {
	last bool
	kind int
	end  int // the bit behind it
	list []api.Token
	raw  []byte
	// Of a dynamic block:
	lit, dist []int      // the lengths of the first two codes
	third     []int      // those of the third one, by symbol
	thirds    int        // how many of these were written
	items     []readItem // what stands for the lengths of the first two codes
}

// readItem is a symbol of the third code, with where the lengths begin that it
// stands for, and how many they are.
type readItem struct {
	symbol, at, n int
}

// stream is read bit by bit.
type stream struct {
	t  *testing.T
	b  []byte
	at int
}

// bit returns the next bit.
func (s *stream) bit() int {
	if s.at >= 8*len(s.b) {
		s.t.Fatalf("the stream of %d bytes ends", len(s.b))
	}
	v := int(s.b[s.at/8]) >> (s.at % 8) & 1
	s.at++
	return v
}

// number returns the next number of n bits.
func (s *stream) number(n int) int {
	v := 0
	for i := range n {
		v |= s.bit() << i
	}
	return v
}

// codesOf returns the symbols of the codes, 0 for none. A code stands behind a
// one, which tells how many bits it has.
func codesOf(lengths []int) []int {
	codes := make([]int, 1<<16)
	next := 0
	for n := 1; n <= 15; n++ {
		for symbol, length := range lengths {
			if length == n {
				codes[1<<n|next] = symbol + 1
				next++
			}
		}
		next *= 2
	}
	return codes
}

// symbol returns the next symbol.
func (s *stream) symbol(codes []int) int {
	v := 1
	for range 15 {
		v = 2*v + s.bit()
		if codes[v] > 0 {
			return codes[v] - 1
		}
	}
	s.t.Fatalf("no code before bit %d", s.at)
	return 0
}

// read reads the block that begins at that bit.
func read(t *testing.T, b []byte, at int) *readBlock {
	t.Helper()
	s := &stream{t, b, at}
	x := &readBlock{last: s.bit() == 1, kind: s.number(2)}
	switch x.kind {
	case 0:
		x.readStored(s)
	case 1:
		var first, second []int
		for symbol := range 288 {
			n := 8
			if symbol >= 144 && symbol < 256 {
				n = 9
			} else if symbol >= 256 && symbol < 280 {
				n = 7
			}
			first = append(first, n)
		}
		for range 32 {
			second = append(second, 5)
		}
		x.readTokens(s, first, second)
	case 2:
		x.readLengths(s)
		x.readTokens(s, x.lit, x.dist)
	default:
		t.Fatalf("kind %d", x.kind)
	}
	x.end = s.at
	return x
}

// readStored reads the bytes of a stored block.
func (x *readBlock) readStored(s *stream) {
	s.t.Helper()
	for s.at%8 != 0 {
		if s.bit() != 0 {
			s.t.Fatalf("bit %d is not zero", s.at-1)
		}
	}
	n, inverted := s.number(16), s.number(16)
	if n+inverted != 65535 {
		s.t.Fatalf("length %x, inverted %x", n, inverted)
	}
	if n > len(s.b)-s.at/8 {
		s.t.Fatalf("%d bytes of %d", len(s.b)-s.at/8, n)
	}
	x.raw = s.b[s.at/8 : s.at/8+n]
	s.at += 8 * n
}

// readLengths reads the lengths of a dynamic block.
func (x *readBlock) readLengths(s *stream) {
	s.t.Helper()
	nLit, nDist := s.number(5)+257, s.number(5)+1
	x.thirds = s.number(4) + 4
	x.third = make([]int, 19)
	for _, symbol := range thirdOrder[:x.thirds] {
		x.third[symbol] = s.number(3)
	}
	codes := codesOf(x.third)
	var lengths []int
	for len(lengths) < nLit+nDist {
		item := readItem{symbol: s.symbol(codes), at: len(lengths), n: 1}
		v := item.symbol
		switch item.symbol {
		case 16:
			if len(lengths) == 0 {
				s.t.Fatal("no length to repeat")
			}
			v, item.n = lengths[len(lengths)-1], 3+s.number(2)
		case 17:
			v, item.n = 0, 3+s.number(3)
		case 18:
			v, item.n = 0, 11+s.number(7)
		}
		for range item.n {
			lengths = append(lengths, v)
		}
		x.items = append(x.items, item)
	}
	if len(lengths) != nLit+nDist {
		s.t.Fatalf("%d lengths of %d", len(lengths), nLit+nDist)
	}
	x.lit, x.dist = lengths[:nLit], lengths[nLit:]
}

// readTokens reads tokens, up to the end behind them.
func (x *readBlock) readTokens(s *stream, first, second []int) {
	s.t.Helper()
	lits, dists := codesOf(first), codesOf(second)
	for {
		v := s.symbol(lits)
		if v == 256 {
			return
		}
		if v < 256 {
			x.list = append(x.list, api.Token{Lit: byte(v)})
			continue
		}
		if v > 285 {
			s.t.Fatalf("length code %d", v)
		}
		n := lenBases[v-257] + s.number(lenExtras[v-257])
		d := s.symbol(dists)
		if d > 29 {
			s.t.Fatalf("distance code %d", d)
		}
		x.list = append(x.list, api.Token{Len: n, Dist: distBases[d] + s.number(distExtras[d])})
	}
}

// frequencies returns how often the symbols of both codes occur.
func frequencies(list []api.Token) (first, second []int) {
	first, second = make([]int, 286), make([]int, 30)
	first[256] = 1
	for _, x := range list {
		if x.Len == 0 {
			first[x.Lit]++
			continue
		}
		first[257+codeOf(x.Len, lenBases)]++
		second[codeOf(x.Dist, distBases)]++
	}
	return first, second
}

// codeOf returns the code with the last first value that is not above v.
func codeOf(v int, bases []int) int {
	for code := len(bases) - 1; ; code-- {
		if bases[code] <= v {
			return code
		}
	}
}
