package inflate

import (
	"concertina/api"
	"concertina/bits"
)

// state is what a decoder reads next.
type state int

const (
	blockHeader state = iota // whether a block is the last one, and its kind
	storedSize               // the length of a stored block
	storedBytes
	codeCounts   // how many lengths the three codes of a dynamic block have
	thirdLengths // the lengths of the third code
	codeLengths  // those of the first two codes, one by one
	blockToken   // a token of a block, or the block's end
	matchBytes   // nothing: the bytes of a match are put out
	ended        // nothing any more
)

// current is what a decoder knows of the block that it reads.
type current struct {
	last  bool
	left  int // how many bytes of a stored block or of a match are still to come
	dist  int // the distance of this match
	head  head
	codes codes
}

// step reads the next piece of the stream, or puts out bytes, of which Take
// wants at least one. It returns the error with which that ends.
func (d *Decoder) step() api.Errno {
	if d.state == ended {
		return d.end
	}
	mark := d.in
	err := d.read()
	switch err {
	case api.OK:
	case api.ErrEnd:
		// A piece that is incomplete is read again when there is more of it.
		d.in = mark
	default:
		d.finish(err)
	}
	return err
}

// read does what a step does in each state. With ErrEnd it has changed nothing
// but the reader.
func (d *Decoder) read() api.Errno {
	switch d.state {
	case blockHeader:
		return d.readHeader()
	case storedSize:
		return d.readSize()
	case storedBytes:
		return d.readStored()
	case codeCounts:
		return d.readCounts()
	case thirdLengths:
		return d.readThird()
	case codeLengths:
		return d.readLengths()
	case blockToken:
		return d.readToken()
	}
	return d.copyMatch()
}

// finish ends the stream: with ErrDone or with its error. What is needed no more
// isn't kept.
func (d *Decoder) finish(err api.Errno) {
	d.state, d.end = ended, err
	d.block, d.fixed = current{}, codes{}
	d.out.close()
	if d.failed() {
		d.in = bits.Reader{}
	}
}

// failed tells whether the stream has ended with an error.
func (d *Decoder) failed() bool {
	return d.state == ended && d.end != api.ErrDone
}

// readHeader reads what a block begins with.
func (d *Decoder) readHeader() api.Errno {
	v, ok := d.in.Get(1 + 2)
	if !ok {
		return api.ErrEnd
	}
	d.block = current{last: v&1 == 1}
	switch v >> 1 {
	case api.Stored:
		d.state = storedSize
	case api.Fixed:
		d.block.codes = d.fixedCodes()
		d.state = blockToken
	case api.Dynamic:
		d.state = codeCounts
	default:
		return api.ErrForm
	}
	return api.OK
}

// endBlock goes on to the next block, or ends the stream.
func (d *Decoder) endBlock() api.Errno {
	if d.block.last {
		return api.ErrDone
	}
	d.state = blockHeader
	return api.OK
}

// readSize reads the length of a stored block and the same inverted, both at
// once.
func (d *Decoder) readSize() api.Errno {
	d.in.Align()
	v, ok := d.in.Get(16 + 16)
	if !ok {
		return api.ErrEnd
	}
	size, inverted := uint16(v), uint16(v>>16)
	if size != ^inverted {
		return api.ErrForm
	}
	d.block.left = int(size)
	d.state = storedBytes
	return api.OK
}

// readStored puts out bytes of a stored block.
func (d *Decoder) readStored() api.Errno {
	if d.block.left == 0 {
		return d.endBlock()
	}
	if d.in.Left() == 0 {
		return api.ErrEnd
	}
	n, err := d.out.share(d.block.left)
	if err != api.OK {
		return err
	}
	b := d.in.Read(n)
	d.out.add(b)
	d.block.left -= len(b)
	return api.OK
}
