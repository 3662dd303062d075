package coding

import (
	"concertina/api"
	"concertina/internal/steps"
)

// plainEncoder leaves data as they are.
type plainEncoder struct {
	out    []byte // what was not taken
	closed bool
}

// Write appends the bytes of b to the data.
func (e *plainEncoder) Write(b []byte) api.Errno {
	if e.closed {
		return api.ErrDone
	}
	e.out = append(e.out, b...)
	return api.OK
}

// Close ends the data.
func (e *plainEncoder) Close() api.Errno {
	if e.closed {
		return api.ErrDone
	}
	e.closed = true
	return api.OK
}

// Take removes and returns the data.
func (e *plainEncoder) Take() []byte {
	b := e.out
	e.out = nil
	return b
}

// plainDecoder leaves what it is fed as it is.
type plainDecoder struct {
	in     []byte // what was fed and not taken, but for bytes beyond the limit
	room   int    // how many more bytes may be fed
	over   bool   // whether more were fed
	closed bool   // whether nothing more is fed
}

// newPlainDecoder returns a decoder that outputs at most most bytes.
func newPlainDecoder(most int) *plainDecoder {
	return &plainDecoder{room: max(most, 0)}
}

// Feed appends the next part of the data.
func (d *plainDecoder) Feed(b []byte) {
	if d.closed {
		return
	}
	n := min(len(b), d.room)
	d.in = append(d.in, b[:n]...)
	d.room -= n
	d.over = d.over || n < len(b)
}

// End marks the end of the data.
func (d *plainDecoder) End() {
	d.closed = true
}

// Take returns the next bytes of the data.
func (d *plainDecoder) Take(n int) ([]byte, api.Errno) {
	return steps.Take(n, d.step)
}

// step returns the next bytes of the data, at most n, or what is behind them.
func (d *plainDecoder) step(n int) ([]byte, api.Errno) {
	switch {
	case len(d.in) > 0:
		return cut(&d.in, n), api.OK
	case d.over:
		return nil, api.ErrCap
	case d.closed:
		return nil, api.ErrDone
	}
	return nil, api.ErrEnd
}

// cut removes and returns the first n bytes of a list, or all if there are fewer. Who
// keeps them copies them.
func cut(list *[]byte, n int) []byte {
	if n >= len(*list) {
		// An empty slice would keep its whole array in memory.
		b := *list
		*list = nil
		return b
	}
	b := (*list)[:n]
	*list = (*list)[n:]
	return b
}
