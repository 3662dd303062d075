package inflate

import (
	"slices"

	"concertina/api"
	"concertina/code"
	"concertina/table"
)

// How many lengths the three codes of a dynamic block have at least.
const (
	leastLit   = api.EndBlock + 1
	leastDist  = 1
	leastThird = 4
)

const (
	countBits = 5 // of the numbers of lengths of the first two codes
	thirdBits = 4 // of the number of lengths of the third code
)

// previous is the first symbol of the third code that stands for several
// lengths, the only one that repeats the length before it.
const previous = 16

// order is the order in which the lengths of the third code are told.
var order = [api.HeadCodes]int{previous, 17, 18, 0, 8, 7, 9, 6, 10, 5, 11, 4, 12, 3, 13, 2, 14, 1, 15}

// runs tell for how many lengths the symbols from previous on stand: for least
// ones, and as many more as their extra bits say.
var runs = [...]struct{ extra, least int }{{2, 3}, {3, 3}, {7, 11}}

// head is what a dynamic block tells of its codes.
type head struct {
	lit, dist, third int // how many lengths the codes have
	table            *table.Table
	lengths          []int // those of the first two codes that were read
}

// readCounts reads the numbers of lengths, all three at once.
func (d *Decoder) readCounts() api.Errno {
	v, ok := d.in.Get(countBits + countBits + thirdBits)
	if !ok {
		return api.ErrEnd
	}
	lit := leastLit + int(v&(1<<countBits-1))
	dist := leastDist + int(v>>countBits&(1<<countBits-1))
	third := leastThird + int(v>>(countBits+countBits))
	if lit > api.LitCodes || dist > api.DistCodes {
		return api.ErrForm
	}
	d.block.head = head{lit: lit, dist: dist, third: third}
	d.state = thirdLengths
	return api.OK
}

// readThird reads the lengths of the third code, all at once.
func (d *Decoder) readThird() api.Errno {
	lengths := make([]int, api.HeadCodes)
	for i := range d.block.head.third {
		v, ok := d.in.Get(3)
		if !ok {
			return api.ErrEnd
		}
		lengths[order[i]] = int(v)
	}
	if code.Sum(lengths) == 0 {
		return api.ErrCode
	}
	t, err := table.Build(lengths, api.MaxHeadBits)
	if err != api.OK {
		return err
	}
	d.block.head.table = t
	d.state = codeLengths
	return api.OK
}

// readLengths reads what stands for the next lengths of the first two codes, or
// makes these codes when all lengths are there.
func (d *Decoder) readLengths() api.Errno {
	h := &d.block.head
	left := h.lit + h.dist - len(h.lengths)
	if left == 0 {
		return d.makeCodes()
	}
	symbol, err := h.table.Next(&d.in)
	if err != api.OK {
		return err
	}
	length, n, err := d.readRun(symbol)
	if err != api.OK {
		return err
	}
	if n > left {
		return api.ErrForm
	}
	h.lengths = append(h.lengths, slices.Repeat([]int{length}, n)...)
	return api.OK
}

// readRun reads the extra bits of a symbol of the third code, and returns the
// length that it stands for, and how many times it does.
func (d *Decoder) readRun(symbol int) (length, n int, err api.Errno) {
	if symbol < previous {
		return symbol, 1, api.OK
	}
	if symbol == previous {
		before := d.block.head.lengths
		if len(before) == 0 {
			return 0, 0, api.ErrForm
		}
		length = before[len(before)-1]
	}
	run := runs[symbol-previous]
	extra, ok := d.in.Get(run.extra)
	if !ok {
		return 0, 0, api.ErrEnd
	}
	return length, run.least + int(extra), api.OK
}

// makeCodes makes the first two codes of their lengths.
func (d *Decoder) makeCodes() api.Errno {
	h := d.block.head
	if h.lengths[api.EndBlock] == 0 {
		return api.ErrCode
	}
	made, err := newCodes(h.lengths[:h.lit], h.lengths[h.lit:])
	if err != api.OK {
		return err
	}
	d.block.codes, d.block.head = made, head{}
	d.state = blockToken
	return api.OK
}
