package inflate_test

import (
	"slices"

	"concertina/api"
)

// result is what a stream comes to: its output, the error behind it (ErrDone at
// its end), and the bytes behind the stream.
type result struct {
	out  []byte
	err  api.Errno
	rest []byte
}

// reading reads a stream bit by bit, as the chapter tells it. An error is a panic.
type reading struct {
	b    []byte
	at   int
	most int
	out  []byte
}

// read returns what a stream comes to that is there as a whole.
func read(b []byte, most int) (x result) {
	r := &reading{b: b, most: most}
	defer func() {
		x.out = r.out
		err, ok := recover().(api.Errno)
		if !ok {
			panic("no error")
		}
		x.err = err
		if err == api.ErrDone {
			x.rest = b[(r.at+7)/8:]
		}
	}()
	for {
		r.block()
	}
}

// bit returns the next bit.
func (r *reading) bit() int {
	if r.at >= 8*len(r.b) {
		panic(api.ErrEnd)
	}
	v := int(r.b[r.at/8]) >> (r.at % 8) & 1
	r.at++
	return v
}

// number returns the next number of n bits.
func (r *reading) number(n int) int {
	v := 0
	for i := range n {
		v |= r.bit() << i
	}
	return v
}

// check ends the reading with an error if that is wrong.
func check(right bool, err api.Errno) {
	if !right {
		panic(err)
	}
}

// put puts out a byte.
func (r *reading) put(v byte) {
	check(len(r.out) < r.most, api.ErrCap)
	r.out = append(r.out, v)
}

// block reads a block.
func (r *reading) block() {
	last, kind := r.bit(), r.number(2)
	switch kind {
	case 0:
		r.stored()
	case 1:
		r.tokens(symbolsOf(fixedLits), symbolsOf(fixedDists))
	case 2:
		r.tokens(r.codes())
	default:
		panic(api.ErrForm)
	}
	if last == 1 {
		panic(api.ErrDone)
	}
}

// stored reads a stored block.
func (r *reading) stored() {
	r.at = (r.at + 7) / 8 * 8
	size, inverted := r.number(16), r.number(16)
	check(size+inverted == 65535, api.ErrForm)
	for range size {
		r.put(byte(r.number(8)))
	}
}

// Numbers that stand for no symbol: no code begins so, or longer ones do.
const (
	noCode = -1
	prefix = -2
)

// symbolsOf returns what each beginning of a code stands for. A code stands behind
// a one, which tells how many bits it has.
func symbolsOf(lengths []int) []int {
	longest := slices.Max(lengths)
	symbols := make([]int, 2<<max(longest, 1))
	for i := range symbols {
		symbols[i] = noCode
	}
	next := 0
	for n := 1; n <= longest; n++ {
		next *= 2
		for symbol, length := range lengths {
			if length != n {
				continue
			}
			v := 1<<n | next
			symbols[v] = symbol
			for v > 1 {
				v /= 2
				symbols[v] = prefix
			}
			next++
		}
	}
	return symbols
}

// symbol returns the next symbol.
func (r *reading) symbol(symbols []int) int {
	v := 1
	for {
		v = 2*v + r.bit()
		check(symbols[v] != noCode, api.ErrCode)
		if symbols[v] != prefix {
			return symbols[v]
		}
	}
}

// checkCode ends the reading if these are not the lengths of a code.
func checkCode(lengths []int) {
	sum, most, number := 0, 0, 0
	for _, n := range lengths {
		if n > 0 {
			sum += 1 << (15 - n)
			most = max(most, n)
			number++
		}
	}
	check(sum == 1<<15 || number == 0 || number == 1 && most == 1, api.ErrCode)
}

// codes reads the head of a dynamic block.
func (r *reading) codes() (lits, dists []int) {
	nLit, nDist, nThird := 257+r.number(5), 1+r.number(5), 4+r.number(4)
	check(nLit <= 286 && nDist <= 30, api.ErrForm)
	third := make([]int, 19)
	told := 0
	for _, symbol := range thirdOrder[:nThird] {
		third[symbol] = r.number(3)
		told += third[symbol]
	}
	check(told > 0, api.ErrCode)
	checkCode(third)
	list := r.lengths(symbolsOf(third), nLit+nDist)
	check(list[256] > 0, api.ErrCode)
	checkCode(list[:nLit])
	checkCode(list[nLit:])
	return symbolsOf(list[:nLit]), symbolsOf(list[nLit:])
}

// lengths reads as many lengths.
func (r *reading) lengths(symbols []int, number int) []int {
	var list []int
	for len(list) < number {
		v, n := r.symbol(symbols), 1
		switch v {
		case 16:
			check(len(list) > 0, api.ErrForm)
			v, n = list[len(list)-1], 3+r.number(2)
		case 17:
			v, n = 0, 3+r.number(3)
		case 18:
			v, n = 0, 11+r.number(7)
		}
		check(len(list)+n <= number, api.ErrForm)
		list = append(list, same(n, v)...)
	}
	return list
}

// tokens reads tokens of a block, up to the end behind them.
func (r *reading) tokens(lits, dists []int) {
	for {
		v := r.symbol(lits)
		if v == 256 {
			return
		}
		if v < 256 {
			r.put(byte(v))
			continue
		}
		check(v <= 285, api.ErrCode)
		n := lenBases[v-257] + r.number(lenExtras[v-257])
		d := r.symbol(dists)
		check(d <= 29, api.ErrCode)
		dist := distBases[d] + r.number(distExtras[d])
		check(dist <= len(r.out), api.ErrCode)
		for range n {
			r.put(r.out[len(r.out)-dist])
		}
	}
}
