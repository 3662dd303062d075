package gzip

import (
	"concertina/api"
	"concertina/deflate"
	"concertina/sums"
)

// body is the encoder of a member without its header. Its zero value is done,
// since a nil stream is.
type body struct {
	totals
	stream *deflate.Encoder
	tail   []byte // what is behind the stream, from Close on until it is taken
}

// write appends the bytes of b to the data.
func (m *body) write(b []byte) api.Errno {
	err := m.stream.Write(b)
	if err == api.OK {
		m.add(b)
	}
	return err
}

// close ends the stream, and the member behind it.
func (m *body) close() api.Errno {
	err := m.stream.Close()
	if err == api.OK {
		m.tail = m.print()
	}
	return err
}

// take removes and returns the complete bytes.
func (m *body) take() []byte {
	b := append(m.stream.Take(), m.tail...)
	m.tail = nil
	return b
}

// totals are what a member tells of its data behind its stream.
type totals struct {
	crc, size uint32 // the size modulo 2^32
}

// totalsSize is the number of bytes of printed totals.
const totalsSize = 4 + 4

// add counts further bytes of the data.
func (t *totals) add(b []byte) {
	t.crc = sums.CRC(t.crc, b)
	t.size += uint32(len(b))
}

// print returns the bytes with which a member of these data ends.
func (t *totals) print() []byte {
	return appendNumber(appendNumber(nil, t.crc, 4), t.size, 4)
}

// appendNumber appends the n lowest bytes of v, the lowest one first.
func appendNumber(b []byte, v uint32, n int) []byte {
	for range n {
		b = append(b, byte(v))
		v >>= 8
	}
	return b
}
