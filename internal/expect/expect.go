// Package expect compares what the tests of the layers get with what they should
// get. The program does not use it.
package expect

import (
	"bytes"

	"concertina/api"
)

// T is what a comparison needs of a test.
type T interface {
	Helper()
	Errorf(format string, args ...any)
}

// Bytes compares bytes; nil and empty are the same.
func Bytes(t T, what string, got, want []byte) {
	t.Helper()
	if !bytes.Equal(got, want) {
		t.Errorf("%s: %d bytes %q instead of %d bytes %q", what, len(got), Short(got), len(want), Short(want))
	}
}

// Err compares an error.
func Err(t T, what string, got, want api.Errno) {
	t.Helper()
	if got != want {
		t.Errorf("%s: error %d instead of %d", what, got, want)
	}
}

// Short returns a text for a message, of many bytes only the first ones.
func Short(b []byte) string {
	if len(b) > 40 {
		return string(b[:40]) + ".."
	}
	return string(b)
}
