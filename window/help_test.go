package window_test

import (
	"bytes"
	"math"
	"testing"

	"concertina/api"
	"concertina/internal/expect"
	"concertina/window"
)

// belowOne are numbers below 1.
var belowOne = []int{0, -1, -2, -api.MaxMatch, -api.WindowSize, math.MinInt32, math.MinInt32 - 1, math.MinInt + 1, math.MinInt}

// pattern returns n bytes in which none of the near ones are the same, and
// which differ from those at the same places of the window before.
func pattern(n int) []byte {
	b := make([]byte, n)
	for i := range b {
		b[i] = byte(i + i/251 + i/63001)
	}
	return b
}

// windowOf returns a window to which the bytes were added.
func windowOf(b []byte) *window.Window {
	w := window.New()
	w.Add(b)
	return w
}

// wantBytes compares bytes, and short shortens them for a message.
var (
	wantBytes = expect.Bytes
	short     = expect.Short
)

// wantWindow compares what is in a window.
func wantWindow(t *testing.T, w *window.Window, want []byte) {
	t.Helper()
	if w.Len() != len(want) {
		t.Errorf("Len: %d instead of %d", w.Len(), len(want))
	}
	wantBytes(t, "Last", w.Last(math.MaxInt), want)
}

// wantCopy calls Copy, which should return these bytes.
func wantCopy(t *testing.T, w *window.Window, n, dist int, want []byte) {
	t.Helper()
	got, err := w.Copy(n, dist)
	if err != api.OK || !bytes.Equal(got, want) {
		t.Errorf("Copy(%d, %d): %d bytes %q, %d instead of %d bytes %q", n, dist, len(got), short(got), err, len(want), short(want))
	}
}

// wantError calls Copy, which should return an error and change nothing.
func wantError(t *testing.T, w *window.Window, n, dist int, want api.Errno) {
	t.Helper()
	before := w.Last(math.MaxInt)
	if got, err := w.Copy(n, dist); got != nil || err != want {
		t.Errorf("Copy(%d, %d): %d bytes %q, %d instead of %d", n, dist, len(got), short(got), err, want)
	}
	wantWindow(t, w, before)
}
