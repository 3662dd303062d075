package coding

import (
	"cmp"
	"math"

	"concertina/api"
	"concertina/internal/steps"
)

const (
	// dataSize is how many bytes of data a pipe decodes at once. They are few, so
	// that few of them wait in it.
	dataSize = 1024
	// inSize is how many bytes a pipe feeds to its decoder at once. They are even
	// fewer, so that bytes that stay as they are never fill a part of the data:
	// the decoder is known to have read all of them.
	inSize = dataSize / 2
)

// Pipe converts what it is fed from one coding to another. Its zero value is a pipe
// that is done.
type Pipe struct {
	source
	sink
	err api.Errno // what is behind the output, when the source has ended
}

// NewPipe returns a pipe that encodes with a level as in package deflate, of at most
// most bytes of data. If there is nothing to convert, it passes on any bytes as they
// are.
func NewPipe(from, to, level, most int) *Pipe {
	if from == to || from == api.Other || to == api.Other {
		from, to, most = api.Identity, api.Identity, math.MaxInt
	}
	return &Pipe{source: newSource(from, most), sink: newSink(to, level)}
}

// Feed appends the next part of the bytes that are converted.
func (p *Pipe) Feed(b []byte) {
	if p == nil {
		return
	}
	p.source.add(b)
}

// End marks their end.
func (p *Pipe) End() {
	if p == nil {
		return
	}
	p.source.closed = true
}

// Take returns the next bytes of the output, at most n, and OK if there are n of
// them. If there are fewer, the error is ErrEnd; if there are none, it is ErrDone at
// the end, the error of the decoder, or ErrEnd if more input or its end is needed.
func (p *Pipe) Take(n int) ([]byte, api.Errno) {
	if p == nil {
		return nil, api.ErrDone
	}
	return steps.Take(n, p.step)
}

// Held returns the number of bytes that wait. It counts no byte that the decoder
// has read, and in the encoder, which doesn't tell, as many as there may be.
func (p *Pipe) Held() int {
	if p == nil {
		return 0
	}
	return p.source.held() + p.sink.held()
}

// step returns the next bytes of the output, at most n, or converts the next bytes
// of the input, or returns the error with which that ends.
func (p *Pipe) step(n int) ([]byte, api.Errno) {
	switch {
	case len(p.sink.out) > 0:
		return cut(&p.sink.out, n), api.OK
	case p.source.ended():
		return nil, cmp.Or(p.err, api.ErrDone)
	}
	return nil, p.convert()
}

// convert converts the next bytes of the input.
func (p *Pipe) convert() api.Errno {
	b, err := p.source.decode(dataSize)
	switch {
	case len(b) > 0:
		p.sink.encode(b)
		return api.OK
	case err == api.ErrEnd && !p.source.closed:
		return err
	case err == api.ErrDone:
		p.sink.finish()
	default:
		// Without its end the output is no use, nor is what else there would be.
		p.sink, p.err = sink{}, err
	}
	p.source = source{}
	return api.OK
}
