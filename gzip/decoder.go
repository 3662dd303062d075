package gzip

import (
	"bytes"
	"slices"

	"concertina/api"
	"concertina/inflate"
	"concertina/internal/steps"
)

// partSize is how many bytes a stream is fed at once. What stands behind the
// stream is among them and comes back, so that they should be few.
const partSize = 1024

// state is what a decoder reads next.
type state int

const (
	memberHeader state = iota
	memberStream
	memberTotals
	failed // nothing any more
)

// Decoder decompresses a file. Its zero value is a decoder that may not output a
// byte.
type Decoder struct {
	totals         // of the member that is read, so far
	in      []byte // what was fed and not read yet
	closed  bool   // whether nothing more is fed
	most    int    // how many more bytes may be output: none, if it is below 1
	state   state
	err     api.Errno // in state failed
	stream  *inflate.Decoder
	given   int // how many bytes of in the stream was fed already
	headers []api.Header
}

// NewDecoder returns a decoder that outputs at most most bytes, of all members
// together.
func NewDecoder(most int) *Decoder {
	return &Decoder{most: most}
}

// Feed appends the next part of the file, if neither its end nor an error is
// known.
func (d *Decoder) Feed(b []byte) {
	if d == nil || d.closed || d.state == failed {
		return
	}
	d.in = append(d.in, b...)
	// What has no output is read at once, so that Headers has a header before
	// its data are asked for.
	for d.state != memberStream {
		if _, err := d.step(0); err != api.OK {
			return
		}
	}
}

// End marks the end of the file.
func (d *Decoder) End() {
	if d != nil {
		d.closed = true
	}
}

// Take returns the next bytes of the data of all members, at most n, and OK if
// there are n of them. If there are fewer, the error is ErrEnd; if there are none,
// it is ErrDone at the end of the file, the file's error, or ErrEnd if more input
// is needed.
func (d *Decoder) Take(n int) ([]byte, api.Errno) {
	if d == nil {
		return nil, api.ErrDone
	}
	return steps.Take(n, d.step)
}

// Headers returns the headers that were read completely.
func (d *Decoder) Headers() []api.Header {
	if d == nil {
		return nil
	}
	list := slices.Clone(d.headers)
	for i := range list {
		list[i].Extra = slices.Clone(list[i].Extra)
	}
	return list
}

// step reads the next piece of the file, and returns what that outputs, at most n
// bytes, or the error with which it ends.
func (d *Decoder) step(n int) ([]byte, api.Errno) {
	switch d.state {
	case memberHeader:
		return nil, d.readHeader()
	case memberStream:
		return d.readStream(n)
	case memberTotals:
		return nil, d.readTotals()
	}
	return nil, d.err
}

// fail ends the file with an error. What is needed no more isn't kept.
func (d *Decoder) fail(err api.Errno) api.Errno {
	d.state, d.err = failed, err
	d.in, d.stream = nil, nil
	return err
}

// skip removes n bytes of what was fed.
func (d *Decoder) skip(n int) {
	d.in = d.in[n:]
	if len(d.in) == 0 {
		// An empty slice would keep its whole array in memory.
		d.in = nil
	}
}

// readHeader reads the header of a member, or the end of the file before it.
func (d *Decoder) readHeader() api.Errno {
	if d.closed && len(d.in) == 0 && len(d.headers) > 0 {
		return api.ErrDone
	}
	h, n, err := ParseHeader(d.in)
	switch err {
	case api.OK:
	case api.ErrEnd:
		return err
	default:
		return d.fail(err)
	}
	d.skip(n)
	d.headers = append(d.headers, h)
	d.stream, d.state = inflate.New(d.most), memberStream
	return api.OK
}

// readStream reads from the stream of a member.
func (d *Decoder) readStream(n int) ([]byte, api.Errno) {
	b, err := d.stream.Take(n)
	switch {
	case len(b) > 0:
		d.add(b)
		d.most -= len(b)
		return b, api.OK
	case err == api.ErrEnd:
		return nil, d.feedStream()
	case err != api.ErrDone:
		return nil, d.fail(err)
	}
	d.skip(d.given - len(d.stream.Rest()))
	d.stream, d.given, d.state = nil, 0, memberTotals
	return nil, api.OK
}

// feedStream feeds the next part to the stream, which has read the one before it.
func (d *Decoder) feedStream() api.Errno {
	d.skip(d.given)
	d.given = min(len(d.in), partSize)
	if d.given == 0 {
		return api.ErrEnd
	}
	d.stream.Feed(d.in[:d.given])
	return api.OK
}

// readTotals reads what is behind the stream of a member.
func (d *Decoder) readTotals() api.Errno {
	if len(d.in) < totalsSize {
		return api.ErrEnd
	}
	if !bytes.Equal(d.in[:totalsSize], d.print()) {
		return d.fail(api.ErrSum)
	}
	d.skip(totalsSize)
	d.totals, d.state = totals{}, memberHeader
	return api.OK
}
