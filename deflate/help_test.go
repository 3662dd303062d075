package deflate_test

import (
	"bytes"
	"compress/flate"
	"io"
	"testing"

	"concertina/api"
	"concertina/deflate"
	"concertina/internal/expect"
	"concertina/internal/sample"
)

const (
	blockSize = 16384
	mostBlock = 16384 + 258 // the most data of a block
	levels    = 10          // the number of levels, from 0 on
)

// eachInput calls f with each input and each level, with several inputs at once.
func eachInput(t *testing.T, f func(t *testing.T, b []byte, level int)) {
	for name, b := range sample.Inputs() {
		t.Run(name, func(t *testing.T) {
			t.Parallel()
			for level := range levels {
				f(t, b, level)
			}
		})
	}
}

// What the tests of other packages need as well.
var (
	wantBytes = expect.Bytes
	wantErr   = expect.Err
	closed    = expect.Closed
	write     = expect.Write
	spoil     = sample.Spoil
)

// wantData reads a stream, with the test's own decoder and with the library's,
// and compares its data.
func wantData(t *testing.T, what string, b, want []byte) *stream {
	t.Helper()
	s := read(t, b)
	wantBytes(t, what, s.data, want)
	rest := bytes.NewReader(b)
	got, err := io.ReadAll(flate.NewReader(rest))
	if err != nil || rest.Len() > 0 {
		t.Errorf("%s: %d bytes remain, %v", what, rest.Len(), err)
	}
	wantBytes(t, what, got, want)
	return s
}

// wantFlushed reads what was taken of a stream after a Flush, and compares the
// data.
func wantFlushed(t *testing.T, what string, b, want []byte) *stream {
	t.Helper()
	s := readFlushed(t, b)
	wantBytes(t, what, s.data, want)
	return s
}

// flushed flushes an encoder and returns what it has then.
func flushed(t *testing.T, e *deflate.Encoder) []byte {
	t.Helper()
	wantErr(t, "Flush", e.Flush(), api.OK)
	return e.Take()
}
