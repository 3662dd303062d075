package zlib

import (
	"bytes"

	"concertina/api"
	"concertina/inflate"
	"concertina/internal/steps"
	"concertina/sums"
)

// state is what a decoder reads next.
type state int

const (
	fileHeader state = iota
	fileStream
	fileSum
	fileEnd
	failed // nothing any more
)

// Decoder decompresses a file. Its zero value is a decoder that may not output a
// byte.
type Decoder struct {
	in     []byte // what was fed and not read yet, but for what the stream has
	closed bool   // whether nothing more is fed
	most   int    // how many bytes may be output: none, if it is below 1
	state  state
	err    api.Errno        // in state failed
	stream *inflate.Decoder // in state fileStream
	sum    uint32           // of the data so far
}

// NewDecoder returns a decoder that outputs at most most bytes.
func NewDecoder(most int) *Decoder {
	return &Decoder{most: most}
}

// Feed appends the next part of the file, if neither its end nor an error is
// known.
func (d *Decoder) Feed(b []byte) {
	if d == nil || d.closed || d.state == failed {
		return
	}
	if d.state == fileStream {
		d.stream.Feed(b)
		return
	}
	d.in = append(d.in, b...)
	// An error is looked for at once, since what is behind it need not be kept.
	for d.state != fileStream {
		if _, err := d.step(0); err != api.OK {
			return
		}
	}
}

// End marks the end of the file.
func (d *Decoder) End() {
	if d != nil {
		d.closed = true
	}
}

// Take returns the next bytes of the data, at most n, and OK if there are n of
// them. If there are fewer, the error is ErrEnd; if there are none, it is ErrDone
// at the end of the file, the file's error, or ErrEnd if more input is needed.
func (d *Decoder) Take(n int) ([]byte, api.Errno) {
	if d == nil {
		return nil, api.ErrDone
	}
	return steps.Take(n, d.step)
}

// step reads the next piece of the file, and returns what that outputs, at most n
// bytes, or the error with which it ends.
func (d *Decoder) step(n int) ([]byte, api.Errno) {
	switch d.state {
	case fileHeader:
		return nil, d.readHeader()
	case fileStream:
		return d.readStream(n)
	case fileSum:
		return nil, d.readSum()
	case fileEnd:
		return nil, d.readEnd()
	}
	return nil, d.err
}

// fail ends the file with an error. What is needed no more isn't kept.
func (d *Decoder) fail(err api.Errno) api.Errno {
	d.state, d.err = failed, err
	d.in, d.stream = nil, nil
	return err
}

// readHeader reads what is before the stream.
func (d *Decoder) readHeader() api.Errno {
	switch {
	case len(d.in) > 0 && !validFirst(d.in[0]):
		return d.fail(api.ErrForm)
	case len(d.in) < headerSize:
		return api.ErrEnd
	case !validSecond(d.in[0], d.in[1]):
		return d.fail(api.ErrForm)
	}
	d.stream = inflate.New(d.most)
	d.stream.Feed(d.in[headerSize:])
	d.in, d.sum, d.state = nil, emptySum, fileStream
	return api.OK
}

// headerSize is the number of bytes before the stream.
const headerSize = 2

// validFirst tells whether a file may begin with this byte.
func validFirst(b byte) bool {
	return b&15 == 8 && b>>4 <= 7
}

// validSecond tells whether this may be the byte behind the first one.
func validSecond(first, b byte) bool {
	return (int(first)<<8+int(b))%31 == 0 && b&32 == 0
}

// readStream reads from the stream.
func (d *Decoder) readStream(n int) ([]byte, api.Errno) {
	b, err := d.stream.Take(n)
	switch {
	case len(b) > 0:
		d.sum = sums.Adler(d.sum, b)
		return b, api.OK
	case err == api.ErrEnd:
		return nil, err
	case err != api.ErrDone:
		return nil, d.fail(err)
	}
	d.in = d.stream.Rest()
	d.stream, d.state = nil, fileSum
	return nil, api.OK
}

// readSum reads the checksum behind the stream.
func (d *Decoder) readSum() api.Errno {
	if len(d.in) < sumSize {
		return api.ErrEnd
	}
	if !bytes.Equal(d.in[:sumSize], appendSum(nil, d.sum)) {
		return d.fail(api.ErrSum)
	}
	d.in, d.state = d.in[sumSize:], fileEnd
	return api.OK
}

// readEnd looks for bytes behind the file.
func (d *Decoder) readEnd() api.Errno {
	switch {
	case len(d.in) > 0:
		return d.fail(api.ErrForm)
	case d.closed:
		return api.ErrDone
	}
	return api.ErrEnd
}
